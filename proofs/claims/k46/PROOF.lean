import PyProof.Rows.All
import Wide.All
import OpenK.AllK
import Wide.FinOn
import HandS.ForMost
import HandS.Exc
import HandS.TryOnly
import HandS.ExcOwn
import HandS.WordsExc
import HandS.TupAny
import HandS.SetKeys
import HandS.IsInst
import HandS.Strs
import HandS.Zip
import HandS.Rev
import HandS.DictComp
import HandS.Wide
import HandS.Flow
import HandS.CallSlots
import HandS.ExcInit
import HandS.ExcField
import KE.GoesEnum
import KE.DataMinMax
import HandS.SortKw
import PyProof.Rows.SortShellAny
import PyProof.TupleOfSeq
import KE.KDictWalk
import KE.KDictPairs
import HandS.StrMore
import HandS.Deep
import PyProof.StrLawsTight
import PySem.Challenge.RW_openlines_k46_bodies_written
set_option Elab.async false
set_option linter.all false
set_option maxRecDepth 100000
set_option maxHeartbeats 8000000
/-! DLR: tuples that are known to have no dict of their own (made by the rules below), and their methods -/
namespace DL
open PySem L2 PySem.Spec PyProof.Rows
/-- a tuple whose object is known, without a dict -/
def GT (K : PySem.W.Frag) (G : Hp) (a : Addr) (xs : List V) : Prop := SqT K G a xs ∧ ∃ o : Obj, (G a = some (.frz o (.tup xs)) ∨ K.lookup a = some o) ∧ o.dict = none
theorem GT.new {K : PySem.W.Frag} {G : Hp} {a : Addr} {xs : List V} {o : Obj} (h : G a = some (.frz o (.tup xs))) (hd : o.dict = none) : GT K G a xs := ⟨.inl (.inr ⟨o, h⟩), o, .inl h, hd⟩
section
variable {X : Cx}
def tTupG (t : TA) : TE := fun σ H Q => t σ H fun xs H1 => xs.length ≤ sizeLine ∧ ∀ (p : Addr) (o : Obj), H1 p = none → o.dict = none → Q (.ref p) (upd H1 p (.frz o (.tup xs)))
theorem pe_tupG {es : List Expr} {t : TA} {pos : Pos} {x1} (h : PA X es t) : PE X (.Tuple es x1 pos) (tTupG t) := by
  refine ⟨fun pins s σ H Q I hq => ?_⟩
  refine wpAny_Tuple_spliced (thn (h.run pos pins s σ H _ I hq) fun us s1 ⟨xs, H1, I1, r, z, q⟩ => ⟨by rw [← r.length]; exact z, ?_⟩)
  have hf : H1 s1.heap.objs.size = none := I1.hok.fresh (Nat.le_refl _)
  refine ⟨.ref s1.heap.objs.size, upd H1 s1.heap.objs.size (.frz { cls := .type "tuple", data := .seq us.toArray } (.tup xs)), I1.laid (t' := s1.toks) (fun b u e => Heap.get?_push_of_some _ e) (Nat.le_refl _) ?_, rfl, q _ _ hf rfl⟩
  exact ⟨Heap.get?_push_size _ rfl, z, us, r, ⟨_, Heap.get?_push_size _ rfl, rfl, _, rfl⟩⟩
def rCatG (K : PySem.W.Frag) : R2 := fun x y H Q => ∃ a b xs ys, x = .ref a ∧ y = .ref b ∧ SqT K H a xs ∧ SqT K H b ys ∧ xs.length + ys.length ≤ sizeLine ∧
  (xs = [] → Q (.ref b) H) ∧ (xs ≠ [] → ys = [] → Q (.ref a) H) ∧ (xs ≠ [] → ys ≠ [] → ∀ (p : Addr) (o : Obj), H p = none → o.dict = none → Q (.ref p) (upd H p (.frz o (.tup (xs ++ ys)))))
theorem op_catG : OpR X (binaryOp .Add) (rCatG X.K) := by
  intro pins s σ H x y v u Q I rx ry h
  obtain ⟨a, b, xs, ys, rfl, rfl, ha, hb, hz, q0, q1, q2⟩ := h
  by_cases hx : xs = []
  · exact op_catA pins s σ H _ _ v u Q I rx ry ⟨a, b, xs, ys, rfl, rfl, ha, hb, hz, q0, q1, fun z => absurd hx z⟩
  · cases rx
    cases ry
    obtain ⟨its, r1, p1, _⟩ := I.tuple ha
    obtain ⟨its2, r2, p2, _⟩ := I.tuple hb
    refine HT.cat_tup p1 p2 (fun z => hx (r1.nil_iff.mp z)) (fun z => ⟨.ref a, H, I, rfl, q1 hx (r2.nil_iff.mp z)⟩) (fun z => ?_) (by rw [← r1.length, ← r2.length]; exact hz)
    refine ⟨.ref s.heap.objs.size, _, I.laid (t' := s.toks) (o := .frz { cls := .type "tuple", data := .seq (its ++ its2).toArray } (.tup (xs ++ ys))) (fun b ob q => Heap.get?_push_of_some _ q) (Nat.le_refl _) ?_, rfl, q2 hx (fun w => z (r2.nil_iff.mpr w)) _ _ (I.hok.fresh (Nat.le_refl _)) rfl⟩
    exact ⟨Heap.get?_push_size _ rfl, by rw [List.length_append]; exact hz, _, r1.append r2, IsTup.new _ _⟩
def rSlG (K : PySem.W.Frag) : V → Option Int → Option Int → Hp → VK → Prop := fun x lo hi H Q => ∃ a xs, x = .ref a ∧ SqT K H a xs ∧
  (HT.sIx xs.length 0 lo = 0 ∧ HT.sIx xs.length xs.length hi = xs.length → Q (.ref a) H) ∧ (¬ (HT.sIx xs.length 0 lo = 0 ∧ HT.sIx xs.length xs.length hi = xs.length) → ∀ (p : Addr) (o : Obj), H p = none → o.dict = none → Q (.ref p) (upd H p (.frz o (.tup (cutV xs lo hi)))))
theorem sl_tupG : SlR X (rSlG X.K) := by
  intro pins s σ H x v vl vu lo hi sl Q I rx hs pl pu h
  obtain ⟨a, xs, rfl, hx, q1, q2⟩ := h
  by_cases hw : HT.sIx xs.length 0 lo = 0 ∧ HT.sIx xs.length xs.length hi = xs.length
  · exact sl_tupA pins s σ H _ v vl vu lo hi sl Q I rx hs pl pu ⟨a, xs, rfl, hx, q1, fun z => absurd hw z⟩
  · cases rx
    obtain ⟨its, r, ht, hz⟩ := I.tuple hx
    have hlen : its.toArray.size = xs.length := by rw [List.size_toArray]; exact r.length.symm
    refine ⟨"tuple", _, PyProof.Rows.slot_tuple_getitem.lookup, ht.typeIs, ?_⟩
    refine HT.getItem_tuple_cut ht hs pl pu (by rw [hlen]; exact hw) ?_ (by rw [hlen]; exact hz)
    rw [hlen]
    refine ⟨.ref s.heap.objs.size, _, I.laid (t' := s.toks) (o := .frz { cls := .type "tuple", data := .seq ((its.toArray.toList.drop (HT.sIx xs.length 0 lo)).take (HT.sIx xs.length xs.length hi - HT.sIx xs.length 0 lo)).toArray } (.tup (cutV xs lo hi))) (fun b ob q => Heap.get?_push_of_some _ q) (Nat.le_refl _) ?_, rfl, q2 hw _ _ (I.hok.fresh (Nat.le_refl _)) rfl⟩
    exact ⟨Heap.get?_push_size _ rfl, Nat.le_trans (cutV_length xs lo hi) hz, _, (r.drop (HT.sIx xs.length 0 lo)).take (HT.sIx xs.length xs.length hi - HT.sIx xs.length 0 lo), IsTup.new _ _⟩
def rTupOf (K : PySem.W.Frag) : List V → Hp → VK → Prop := fun xs H Q => ∃ p ys, xs = [.ref p] ∧ ((SqL K H p ys ∧ ∀ (l : Addr) (o : Obj), H l = none → o.dict = none → Q (.ref l) (upd H l (.frz o (.tup ys)))) ∨ (SqT K H p ys ∧ Q (.ref p) H))
theorem call_tupG : CallR X (.type "tuple") (rTupOf X.K) := by
  intro pins s σ H xs us Q I r h
  obtain ⟨p, ys, rfl, h⟩ := h
  obtain ⟨u, rfl, rx⟩ := vals1 r
  cases rx
  rcases h with ⟨hq, q⟩ | ⟨hq, q⟩
  · obtain ⟨its, r', pl, hz⟩ := I.list hq
    have hlen := r'.length
    refine call_tuple_list pl.isList (fun h' kp => ?_) (by simp only [List.size_toArray] <;> omega)
    have I1 : Inv X pins σ H { s with heap := h' } := I.kept (t' := s.toks) kp
    have I2 : Inv X pins σ (upd H h'.objs.size (.frz { cls := .type "tuple", data := .seq its.toArray } (.tup ys))) { s with heap := h'.push { cls := .type "tuple", data := .seq its.toArray } } :=
      I1.laid (t' := s.toks) (fun b o e => Heap.get?_push_of_some _ e) (Nat.le_refl _) (show ObjOk X.prog X.w _ _ _ (.frz _ (.tup ys)) from ⟨Heap.get?_push_size _ rfl, hz, its, r', IsTup.new _ _⟩)
    exact ⟨.ref h'.objs.size, _, I2, rfl, q _ _ (I1.hok.fresh (Nat.le_refl _)) rfl⟩
  · obtain ⟨its, r', pl, hz⟩ := I.tuple hq
    exact call_tuple_same pl ⟨.ref p, H, I, rfl, q⟩
/-- a method of a tuple with one argument -/
def tMT (K : PySem.W.Frag) (r : V → List V → Hp → VK → Prop) (to te : TE) : TE := fun σ H Q => to σ H fun x H1 => (∃ a xs, x = .ref a ∧ GT K H1 a xs) ∧ te σ H1 fun y H2 => r x [y] H2 Q
theorem pe_mT {id : String} {name : Str} {o e : Expr} {to te : TE} {apos pos : Pos} {r : V → List V → Hp → VK → Prop} (slot : Slot "tuple" name id) (ty : typeOf (.builtin id) = pure (.type "method_descriptor")) (rule : MtR X id r) (ho : PE X o to) (he : PE X e te)
    (hs : starEach [e] X.env = [(false, eval e X.env)] := by rfl) (hbase : attributeBase o name X.env (eval o X.env) = eval o X.env := by rfl) (hline : (apos.endLine == pos.line) = true := by rfl) :
    PE X (.Call (.Attribute o name apos) [e] [] pos) (tMT X.K r to te) := by
  refine ⟨fun pins s σ H Q I h => ?_⟩
  refine PySem.Call_method1 hbase hs hline (thn (ho.run pins s σ H _ I h) fun v s1 ⟨x, H1, I1, r1, q1⟩ => ?_)
  obtain ⟨⟨a, xs, rfl, hg⟩, q1⟩ := q1
  obtain rfl : v = Value.ref a := r1
  obtain ⟨its, rv, ht, hz⟩ := I1.tuple hg.1
  refine ⟨"tuple", _, F.plainAttrs_tuple, slot, ty, ht.typeIs, fun b e => ?_, Calls.callWith_builtin rfl (Calls.evalArgs_plain (Calls.spliced_cons ?_))⟩
  · cases e
    obtain ⟨ob, ho', hd⟩ := hg.2
    rcases ho' with ho' | ho'
    · exact ⟨ob, (I1.hok _ _ ho').1, hd⟩
    · exact ⟨ob, I1.kIn _ _ ho', hd⟩
  · exact thn (he.run pins s1 σ H1 _ I1 q1) fun u s2 ⟨y, H2, I2, r2, q2⟩ => Calls.spliced_nil (rule pins s2 σ H2 (.ref a) [y] _ [u] Q I2 rfl (.cons r2 .nil) q2)
end
end DL

/-! DL: a plain reading of a body: slots hold plain data, or a list or dict of the body's own -/
namespace DL
open PySem L2 PySem.Spec PyProof.Rows

/-! ### data -/
inductive D where
  | non | bl (b : Bool) | int (i : Int) | str (x : Str)
  | lst (xs : List D) | tup (xs : List D) | frl (xs : List D)
  | dic (kvs : List (Key × D))
  | prs (xs : List D)
  | any (v : V)
  deriving Inhabited

mutual
inductive R (K : PySem.W.Frag) (G : Hp) : V → D → Prop
  | non : R K G .non .non
  | bl (b : Bool) : R K G (.bl b) (.bl b)
  | int (i : Int) : R K G (.int i) (.int i)
  | str (x : Str) : R K G (.str x) (.str x)
  | any (v : V) : R K G v (.any v)
  | lst {a : Addr} {xs : List V} {ds : List D} : G a = some (.lst xs) → RA K G xs ds → R K G (.ref a) (.lst ds)
  | frl {a : Addr} {xs : List V} {ds : List D} : SqL K G a xs → RA K G xs ds → R K G (.ref a) (.frl ds)
  | tup {a : Addr} {xs : List V} {ds : List D} : GT K G a xs → RA K G xs ds → R K G (.ref a) (.tup ds)
  | prs {a : Addr} {xs : List V} {ds : List D} : SqT K G a xs → RA K G xs ds → R K G (.ref a) (.prs ds)
  | dic {a : Addr} {kvs : List (Key × V)} {dvs : List (Key × D)} : Rd G a (.dK kvs) → RK K G kvs dvs → R K G (.ref a) (.dic dvs)
inductive RA (K : PySem.W.Frag) (G : Hp) : List V → List D → Prop
  | nil : RA K G [] []
  | cons {v : V} {vs : List V} {d : D} {ds : List D} : R K G v d → RA K G vs ds → RA K G (v :: vs) (d :: ds)
inductive RK (K : PySem.W.Frag) (G : Hp) : List (Key × V) → List (Key × D) → Prop
  | nil : RK K G [] []
  | cons {k : Key} {v : V} {vs : List (Key × V)} {d : D} {ds : List (Key × D)} : R K G v d → RK K G vs ds → RK K G ((k, v) :: vs) ((k, d) :: ds)
end

/-- what G tells of a heap: dicts may be locked -/
def Sub (G H : Hp) : Prop := ∀ a o, G a = some o → H a = some o ∨ ((∃ kvs, o = .dK kvs) ∧ ∃ ob, H a = some (.frz ob o))
def Gle (G G' : Hp) : Prop := ∀ a o, G a = some o → G' a = some o
theorem Gle.refl (G : Hp) : Gle G G := fun _ _ h => h
theorem Gle.trans {G G1 G2 : Hp} (a : Gle G G1) (b : Gle G1 G2) : Gle G G2 := fun x o h => b x o (a x o h)
theorem Gle.sub {G G' : Hp} (h : Gle G G') : Sub G G' := fun a o e => .inl (h a o e)
theorem Sub.refl (G : Hp) : Sub G G := fun _ _ h => .inl h
theorem Gle.upd {G : Hp} {p : Addr} {o : HO} (h : G p = none) : Gle G (upd G p o) := fun a u e => by
  rw [upd_ne (ne_of_none e h)]
  exact e
theorem Sub.lst {G H : Hp} {a : Addr} {xs : List V} (s : Sub G H) (h : G a = some (.lst xs)) : H a = some (.lst xs) := by
  rcases s a _ h with e | ⟨⟨_, e⟩, _⟩
  · exact e
  · cases e
theorem Sub.frz {G H : Hp} {a : Addr} {u : HO} {o : Obj} (s : Sub G H) (h : G a = some (.frz o u)) : H a = some (.frz o u) := by
  rcases s a _ h with e | ⟨⟨_, e⟩, _⟩
  · exact e
  · cases e
theorem Sub.tup {G H : Hp} {a : Addr} {xs : List V} (s : Sub G H) (h : G a = some (.tup xs)) : H a = some (.tup xs) := by
  rcases s a _ h with e | ⟨⟨_, e⟩, _⟩
  · exact e
  · cases e
theorem Sub.sqL {K : PySem.W.Frag} {G H : Hp} {a : Addr} {xs : List V} (s : Sub G H) (h : SqL K G a xs) : SqL K H a xs := by
  rcases h with (h | ⟨o, h⟩) | h
  · exact .inl (.inl (s.lst h))
  · exact .inl (.inr ⟨o, s.frz h⟩)
  · exact .inr h
theorem Sub.sqT {K : PySem.W.Frag} {G H : Hp} {a : Addr} {xs : List V} (s : Sub G H) (h : SqT K G a xs) : SqT K H a xs := by
  rcases h with (h | ⟨o, h⟩) | h
  · exact .inl (.inl (s.tup h))
  · exact .inl (.inr ⟨o, s.frz h⟩)
  · exact .inr h
theorem Sub.gt {K : PySem.W.Frag} {G H : Hp} {a : Addr} {xs : List V} (s : Sub G H) (h : GT K G a xs) : GT K H a xs := by
  obtain ⟨h1, o, h2, h3⟩ := h
  refine ⟨s.sqT h1, o, ?_, h3⟩
  rcases h2 with h2 | h2
  · exact .inl (s.frz h2)
  · exact .inr h2
theorem Sub.dK {G H : Hp} {a : Addr} {kvs : List (Key × V)} (s : Sub G H) (h : Rd G a (.dK kvs)) : Rd H a (.dK kvs) := by
  rcases h with h | ⟨o, h⟩
  · rcases s a _ h with e | ⟨_, ob, e⟩
    · exact .inl e
    · exact .inr ⟨ob, e⟩
  · exact .inr ⟨o, s.frz h⟩

mutual
theorem R.mono {K : PySem.W.Frag} {G H : Hp} (s : Sub G H) : ∀ {d : D} {v : V}, R K G v d → R K H v d
  | _, _, .non => .non
  | _, _, .bl b => .bl b
  | _, _, .int i => .int i
  | _, _, .str x => .str x
  | _, _, .any v => .any v
  | _, _, .lst h ha => .lst (s.lst h) (RA.mono s ha)
  | _, _, .frl h ha => .frl (s.sqL h) (RA.mono s ha)
  | _, _, .tup h ha => .tup (s.gt h) (RA.mono s ha)
  | _, _, .prs h ha => .prs (s.sqT h) (RA.mono s ha)
  | _, _, .dic h ha => .dic (s.dK h) (RK.mono s ha)
theorem RA.mono {K : PySem.W.Frag} {G H : Hp} (s : Sub G H) : ∀ {ds : List D} {vs : List V}, RA K G vs ds → RA K H vs ds
  | _, _, .nil => .nil
  | _, _, .cons h ha => .cons (R.mono s h) (RA.mono s ha)
theorem RK.mono {K : PySem.W.Frag} {G H : Hp} (s : Sub G H) : ∀ {ds : List (Key × D)} {vs : List (Key × V)}, RK K G vs ds → RK K H vs ds
  | _, _, .nil => .nil
  | _, _, .cons h ha => .cons (R.mono s h) (RK.mono s ha)
end

section
variable {K : PySem.W.Frag} {G : Hp}
theorem RA.length : ∀ {ds : List D} {vs : List V}, RA K G vs ds → vs.length = ds.length
  | _, _, .nil => rfl
  | _, _, .cons _ h => congrArg (· + 1) h.length
theorem RA.append : ∀ {ds es : List D} {vs us : List V}, RA K G vs ds → RA K G us es → RA K G (vs ++ us) (ds ++ es)
  | _, _, _, _, .nil, s => s
  | _, _, _, _, .cons r t, s => .cons r (t.append s)
theorem RA.get : ∀ {ds : List D} {vs : List V} {i : Nat} {d : D}, RA K G vs ds → ds[i]? = some d → ∃ v, vs[i]? = some v ∧ R K G v d
  | _, _, _, _, .nil, e => by simp at e
  | _, _, 0, _, .cons r _, e => by
    simp at e
    subst e
    exact ⟨_, rfl, r⟩
  | _, _, i + 1, _, .cons _ t, e => by
    obtain ⟨v, h, r⟩ := t.get (i := i) (by simpa using e)
    exact ⟨v, by simpa using h, r⟩
theorem RA.getV : ∀ {ds : List D} {vs : List V} {i : Nat} {v : V}, RA K G vs ds → vs[i]? = some v → ∃ d, ds[i]? = some d ∧ R K G v d
  | _, _, _, _, .nil, e => by simp at e
  | _, _, 0, _, .cons r _, e => by
    simp at e
    subst e
    exact ⟨_, rfl, r⟩
  | _, _, i + 1, _, .cons _ t, e => by
    obtain ⟨v, h, r⟩ := t.getV (i := i) (by simpa using e)
    exact ⟨v, by simpa using h, r⟩
theorem RA.take : ∀ {ds : List D} {vs : List V} (n : Nat), RA K G vs ds → RA K G (vs.take n) (ds.take n)
  | _, _, 0, _ => .nil
  | _, _, _ + 1, .nil => .nil
  | _, _, n + 1, .cons r t => .cons r (t.take n)
theorem RA.drop : ∀ {ds : List D} {vs : List V} (n : Nat), RA K G vs ds → RA K G (vs.drop n) (ds.drop n)
  | _, _, 0, h => h
  | _, _, _ + 1, .nil => .nil
  | _, _, n + 1, .cons _ t => t.drop n
theorem RA.set : ∀ {ds : List D} {vs : List V} (n : Nat) {v : V} {d : D}, RA K G vs ds → R K G v d → RA K G (vs.set n v) (ds.set n d)
  | _, _, _, _, _, .nil, _ => .nil
  | _, _, 0, _, _, .cons _ t, r => .cons r t
  | _, _, n + 1, _, _, .cons q t, r => .cons q (t.set n r)
theorem RA.eraseIdx : ∀ {ds : List D} {vs : List V} (n : Nat), RA K G vs ds → RA K G (vs.eraseIdx n) (ds.eraseIdx n)
  | _, _, _, .nil => .nil
  | _, _, 0, .cons _ t => t
  | _, _, n + 1, .cons q t => .cons q (t.eraseIdx n)
theorem RA.reverse {ds : List D} {vs : List V} (h : RA K G vs ds) : RA K G vs.reverse ds.reverse := by
  induction ds generalizing vs with
  | nil => cases h; exact .nil
  | cons d ds ih =>
    cases h with
    | cons r t =>
      rw [List.reverse_cons, List.reverse_cons]
      exact (ih t).append (.cons r .nil)
theorem RA.rep {ds : List D} {vs : List V} (n : Nat) (h : RA K G vs ds) : RA K G (List.replicate n vs).flatten (List.replicate n ds).flatten := by
  induction n with
  | zero => exact .nil
  | succ n ih =>
    rw [List.replicate_succ, List.replicate_succ, List.flatten_cons, List.flatten_cons]
    exact h.append ih
theorem RA.of_ints : ∀ (ns : List Int), RA K G (ns.map V.int) (ns.map D.int)
  | [] => .nil
  | n :: r => .cons (.int n) (RA.of_ints r)
theorem RA.ints : ∀ {ns : List Int} {vs : List V}, RA K G vs (ns.map D.int) → vs = ns.map V.int
  | [], _, h => by cases h; rfl
  | n :: ns, _, h => by
    cases h with
    | cons r t =>
      cases r
      rw [t.ints]
      rfl
theorem RA.strs : ∀ {ns : List Str} {vs : List V}, RA K G vs (ns.map D.str) → vs = ns.map V.str
  | [], _, h => by cases h; rfl
  | n :: ns, _, h => by
    cases h with
    | cons r t =>
      cases r
      rw [t.strs]
      rfl
theorem RA.of_strs : ∀ (ns : List Str), RA K G (ns.map V.str) (ns.map D.str)
  | [] => .nil
  | n :: r => .cons (.str n) (RA.of_strs r)
theorem RA.bls : ∀ {ns : List Bool} {vs : List V}, RA K G vs (ns.map D.bl) → vs = ns.map V.bl
  | [], _, h => by cases h; rfl
  | n :: ns, _, h => by
    cases h with
    | cons r t =>
      cases r
      rw [t.bls]
      rfl
theorem RK.keys : ∀ {ds : List (Key × D)} {vs : List (Key × V)}, RK K G vs ds → vs.map (·.1) = ds.map (·.1)
  | _, _, .nil => rfl
  | _, _, .cons _ t => by
    rw [List.map_cons, List.map_cons, t.keys]
theorem RK.length : ∀ {ds : List (Key × D)} {vs : List (Key × V)}, RK K G vs ds → vs.length = ds.length
  | _, _, .nil => rfl
  | _, _, .cons _ t => congrArg (· + 1) t.length
/-- the data of a dict by key -/
def valD (kvs : List (Key × D)) (k : Key) : Option D := (kvs.find? fun kv => decide (kv.1 = k)).map (·.2)
def putD (kvs : List (Key × D)) (k : Key) (d : D) : List (Key × D) :=
  if kvs.any (fun kv => decide (kv.1 = k)) then kvs.map (fun kv => if kv.1 = k then (kv.1, d) else kv) else kvs ++ [(k, d)]
end
end DL

namespace DL
open PySem L2 PySem.Spec PyProof.Rows

/-! ### slots -/
inductive Slot where
  | no | imm (d : D) | own (d : D) | par (d : D) | fpar (d : D) | exc (x : Str) (fs : Option (List (Str × D)))
  deriving Inhabited
abbrev Env := List Slot
structure Ctx where
  K : PySem.W.Frag
  mg : Str → Option Value
  H0 : Hp
  G0 : Hp
  pa : Nat → Option Addr
  xa : Option (Addr × Value × Option Addr)
  lk : Addr → Option (Obj × HO)
  fr : Addr → Option HO

/-- the module's names; the exception that is handled -/
abbrev MX := (Str → Option Value) × Option (Addr × Value × Option Addr)

def RO (K : PySem.W.Frag) (G H : Hp) (p : Addr) : D → Prop
  | .lst ds => ∃ xs, H p = some (.lst xs) ∧ RA K G xs ds
  | .dic ds => ∃ kvs, H p = some (.dK kvs) ∧ RK K G kvs ds
  | _ => False
theorem RO.mono {K : PySem.W.Frag} {G G' H : Hp} {p : Addr} {d : D} (s : Gle G G') (h : RO K G H p d) : RO K G' H p d := by
  cases d with
  | lst ds =>
    obtain ⟨xs, h1, h2⟩ := h
    exact ⟨xs, h1, RA.mono s.sub h2⟩
  | dic ds =>
    obtain ⟨xs, h1, h2⟩ := h
    exact ⟨xs, h1, RK.mono s.sub h2⟩
  | _ => exact h.elim
theorem RO.at {K : PySem.W.Frag} {G H H' : Hp} {p : Addr} {d : D} (e : H' p = H p) (h : RO K G H p d) : RO K G H' p d := by
  cases d with
  | lst ds =>
    obtain ⟨xs, h1, h2⟩ := h
    exact ⟨xs, e.trans h1, h2⟩
  | dic ds =>
    obtain ⟨xs, h1, h2⟩ := h
    exact ⟨xs, e.trans h1, h2⟩
  | _ => exact h.elim
theorem RO.has {K : PySem.W.Frag} {G H : Hp} {p : Addr} {d : D} (h : RO K G H p d) : ∃ o, H p = some o ∧ (∀ G', G' p = some o → Gle G G' → R K G' (.ref p) d) ∧ ((∃ kvs, o = .dK kvs) ∨ ∃ xs, o = .lst xs) := by
  cases d with
  | lst ds =>
    obtain ⟨xs, h1, h2⟩ := h
    exact ⟨_, h1, fun G' e s => .lst e (RA.mono s.sub h2), .inr ⟨_, rfl⟩⟩
  | dic ds =>
    obtain ⟨xs, h1, h2⟩ := h
    exact ⟨_, h1, fun G' e s => .dic (.inl e) (RK.mono s.sub h2), .inl ⟨_, rfl⟩⟩
  | _ => exact h.elim

def RF (K : PySem.W.Frag) (G : Hp) (vs : List (Str × V)) (fs : List (Str × D)) : Prop := vs.map (·.1) = fs.map (·.1) ∧ RA K G (vs.map (·.2)) (fs.map (·.2))
def XOkK (K : PySem.W.Frag) (mg : Str → Option Value) (G : Hp) (x : Str) (fs : Option (List (Str × D))) (cls : Value) (d : Option Addr) : Prop :=
  ∃ C : Addr, mg x = some (.ref C) ∧ cls = .ref C ∧ match fs with
    | none => d = none
    | some fs => ∃ dd vs, d = some dd ∧ G dd = some (.xd vs) ∧ RF K G vs fs
abbrev XOk (c : Ctx) (G : Hp) (x : Str) (fs : Option (List (Str × D))) (cls : Value) (d : Option Addr) : Prop := XOkK c.K c.mg G x fs cls d
theorem XOk.mono {c : Ctx} {G G' : Hp} {x : Str} {fs : Option (List (Str × D))} {cls : Value} {d : Option Addr} (s : Gle G G') (h : XOk c G x fs cls d) : XOk c G' x fs cls d := by
  obtain ⟨C, h1, h2, h3⟩ := h
  refine ⟨C, h1, h2, ?_⟩
  cases fs with
  | none => exact h3
  | some fs =>
    obtain ⟨dd, vs, h4, h5, h6, h7⟩ := h3
    exact ⟨dd, vs, h4, s _ _ h5, h6, RA.mono s.sub h7⟩

def SlotOk (c : Ctx) (G H : Hp) (i : Nat) (w : Option (Option V)) : Slot → Prop
  | .no => True
  | .imm d => ∃ v, w = some (some v) ∧ R c.K G v d
  | .own d => ∃ p, w = some (some (.ref p)) ∧ c.H0 p = none ∧ G p = none ∧ RO c.K G H p d
  | .par d => ∃ p, w = some (some (.ref p)) ∧ c.pa i = some p ∧ G p = none ∧ RO c.K G H p d
  | .fpar d => ∃ p, w = some (some (.ref p)) ∧ c.pa i = some p ∧ R c.K G (.ref p) d
  | .exc x fs => ∃ a cls d, w = some (some (.ref a)) ∧ c.xa = some (a, cls, d) ∧ XOk c G x fs cls d

structure Rel (c : Ctx) (G : Hp) (env : Env) (σ : L2.St) (H : Hp) : Prop where
  sub : Sub G H
  g0 : Gle c.G0 G
  gfix : ∀ a, c.H0 a ≠ none → (∀ i, c.pa i ≠ some a) → G a = c.G0 a
  keep : ∀ a o, c.H0 a = some o → (∀ i, c.pa i ≠ some a) → H a = some o ∨ ∃ ob, c.lk a = some (ob, o)
  lks : ∀ (a : Addr) (ob : Obj) (u : HO), c.lk a = some (ob, u) → H a = some (.frz ob u)
  pah : ∀ i p, c.pa i = some p → c.H0 p ≠ none ∧ H p ≠ none
  pinj : ∀ i j p, c.pa i = some p → c.pa j = some p → i = j
  len : env.length = σ.length
  slot : ∀ (i : Nat) (s : Slot), env[i]? = some s → SlotOk c G H i σ[i]? s
  dist : ∀ (i j : Nat) (p : Addr) (d e : D), env[i]? = some (.own d) → env[j]? = some (.own e) → σ[i]? = some (some (.ref p)) → σ[j]? = some (some (.ref p)) → i = j
  frs : ∀ (a : Addr) (o : HO), c.fr a = some o → H a = some o ∧ G a = none ∧ ∀ (i : Nat) (d : D), (env[i]? = some (.own d) ∨ env[i]? = some (.par d)) → σ[i]? ≠ some (some (.ref a))
  pars : ∀ (i : Nat) (p : Addr), c.pa i = some p → ∃ d, env[i]? = some (.par d) ∨ env[i]? = some (.fpar d)

section
variable {c : Ctx} {G H : Hp} {env : Env} {σ : L2.St}
theorem Rel.fresh0 (r : Rel c G env σ H) {q : Addr} (h : H q = none) : c.H0 q = none := by
  cases e : c.H0 q with
  | none => rfl
  | some o =>
    by_cases hp : ∃ i, c.pa i = some q
    · obtain ⟨i, hi⟩ := hp
      exact absurd h (r.pah i q hi).2
    · rcases r.keep q o e fun i hi => hp ⟨i, hi⟩ with this | ⟨ob, this⟩
      · rw [h] at this
        cases this
      · have this := r.lks q ob o this
        rw [h] at this
        cases this
theorem Rel.freshG (r : Rel c G env σ H) {q : Addr} (h : H q = none) : G q = none := by
  cases e : G q with
  | none => rfl
  | some o =>
    rcases r.sub q o e with e' | ⟨_, _, e'⟩ <;> (rw [h] at e'; cases e')
theorem Rel.nopa (r : Rel c G env σ H) {q : Addr} (h : c.H0 q = none) (i : Nat) : c.pa i ≠ some q := fun e => (r.pah i q e).1 h

/-- q is no slot's own -/
def Apart (c : Ctx) (env : Env) (σ : L2.St) (q : Addr) : Prop := (∀ (i : Nat) (e : D), env[i]? = some (.own e) → σ[i]? ≠ some (some (.ref q))) ∧ c.fr q = none
theorem Rel.nofr (r : Rel c G env σ H) {q : Addr} (h : H q = none) : c.fr q = none := by
  cases e : c.fr q with
  | none => rfl
  | some o =>
    have := (r.frs q o e).1
    rw [h] at this
    cases this
theorem Rel.frown (r : Rel c G env σ H) {i : Nat} {p : Addr} {d : D} (he : env[i]? = some (.own d) ∨ env[i]? = some (.par d)) (hw : σ[i]? = some (some (.ref p))) : c.fr p = none := by
  cases e : c.fr p with
  | none => rfl
  | some o => exact absurd hw ((r.frs p o e).2.2 i d he)
theorem Rel.apart (r : Rel c G env σ H) {q : Addr} (h : H q = none) : Apart c env σ q := by
  refine ⟨fun i e he hs => ?_, r.nofr h⟩
  obtain ⟨p, e1, _, _, ro⟩ := r.slot i _ he
  rw [hs] at e1
  cases e1
  obtain ⟨o, ho, _⟩ := ro.has
  rw [h] at ho
  cases ho
theorem SlotOk.heap {G' H' : Hp} {i : Nat} {w : Option (Option V)} {s : Slot} (h : SlotOk c G H i w s) (l : Gle G G')
    (k : ∀ p, w = some (some (.ref p)) → G p = none → (∃ d, s = .own d ∨ s = .par d) → G' p = none ∧ H' p = H p) : SlotOk c G' H' i w s := by
  cases s with
  | no => trivial
  | imm d =>
    obtain ⟨v, e, r⟩ := h
    exact ⟨v, e, r.mono l.sub⟩
  | own d =>
    obtain ⟨p, e, h0, g, r⟩ := h
    obtain ⟨g', h'⟩ := k p e g ⟨d, .inl rfl⟩
    exact ⟨p, e, h0, g', (r.mono l).at h'⟩
  | par d =>
    obtain ⟨p, e, h0, g, r⟩ := h
    obtain ⟨g', h'⟩ := k p e g ⟨d, .inr rfl⟩
    exact ⟨p, e, h0, g', (r.mono l).at h'⟩
  | fpar d =>
    obtain ⟨p, e, h0, r⟩ := h
    exact ⟨p, e, h0, r.mono l.sub⟩
  | exc x fs =>
    obtain ⟨a, cls, d, e, h1, h2⟩ := h
    exact ⟨a, cls, d, e, h1, h2.mono l⟩
/-- an object that nobody knows of is new (temporary) -/
theorem Rel.newT (r : Rel c G env σ H) {q : Addr} {o : HO} (h : H q = none) : Rel c G env σ (upd H q o) where
  sub := fun a u e => by
    have ne : a ≠ q := fun z => by
      rw [z, r.freshG h] at e
      cases e
    rw [upd_ne ne]
    exact r.sub a u e
  g0 := r.g0
  gfix := r.gfix
  keep := fun a u e hp => by
    have ne : a ≠ q := fun z => by
      rw [z, r.fresh0 h] at e
      cases e
    rw [upd_ne ne]
    exact r.keep a u e hp
  lks := fun a ob u e => by
    have h1 := r.lks a ob u e
    rw [upd_ne (ne_of_none h1 h)]
    exact h1
  frs := fun a u e => by
    obtain ⟨h1, h2, h3⟩ := r.frs a u e
    refine ⟨?_, h2, h3⟩
    rw [upd_ne (ne_of_none h1 h)]
    exact h1
  pah := fun i p e => ⟨(r.pah i p e).1, by
    have ne : p ≠ q := fun z => (r.pah i p e).2 (by rw [z]; exact h)
    rw [upd_ne ne]
    exact (r.pah i p e).2⟩
  pinj := r.pinj
  len := r.len
  slot := fun i s e => by
    have so := r.slot i s e
    refine so.heap (Gle.refl G) fun p hw hg hs => ⟨hg, upd_ne fun z => ?_⟩
    subst z
    obtain ⟨d, rfl | rfl⟩ := hs
    · obtain ⟨p', e1, _, _, ro⟩ := so
      rw [hw] at e1
      cases e1
      obtain ⟨o, ho, _⟩ := ro.has
      rw [h] at ho
      cases ho
    · obtain ⟨p', e1, _, _, ro⟩ := so
      rw [hw] at e1
      cases e1
      obtain ⟨o, ho, _⟩ := ro.has
      rw [h] at ho
      cases ho
  dist := r.dist
  pars := r.pars
/-- a temporary object becomes data -/
theorem Rel.freezeT (r : Rel c G env σ H) {q : Addr} {o : HO} (h : H q = some o) (h0 : c.H0 q = none) (hg : G q = none) (ap : Apart c env σ q) : Rel c (upd G q o) env σ H where
  lks := r.lks
  frs := fun a u e => by
    obtain ⟨h1, h2, h3⟩ := r.frs a u e
    have ne : a ≠ q := fun z => by
      rw [z, ap.2] at e
      cases e
    exact ⟨h1, by rw [upd_ne ne]; exact h2, h3⟩
  sub := fun a u e => by
    by_cases z : a = q
    · subst z
      rw [upd_same] at e
      cases e
      exact .inl h
    · rw [upd_ne z] at e
      exact r.sub a u e
  g0 := r.g0.trans (Gle.upd hg)
  gfix := fun a ha hp => by
    have ne : a ≠ q := fun z => ha (by rw [z]; exact h0)
    rw [upd_ne ne]
    exact r.gfix a ha hp
  keep := r.keep
  pah := r.pah
  pinj := r.pinj
  len := r.len
  slot := fun i s e => by
    have so := r.slot i s e
    refine so.heap (Gle.upd hg) fun p hw hgp hs => ⟨?_, rfl⟩
    have ne : p ≠ q := fun z => by
      subst z
      obtain ⟨d, rfl | rfl⟩ := hs
      · exact ap.1 i d e hw
      · obtain ⟨p', e1, e2, _⟩ := so
        rw [hw] at e1
        cases e1
        exact r.nopa h0 i e2
    rw [upd_ne ne]
    exact hgp
  dist := r.dist
  pars := r.pars
theorem Rel.new (r : Rel c G env σ H) {q : Addr} {o : HO} (h : H q = none) : Rel c (upd G q o) env σ (upd H q o) :=
  (r.newT h).freezeT upd_same (r.fresh0 h) (r.freshG h) (r.apart h)

/-! ### what an expression gives -/
inductive EV where
  | dat (d : D) | slot (i : Nat) | new (d : D)
  deriving Inhabited
def RV (c : Ctx) (G : Hp) (env : Env) (σ : L2.St) (H : Hp) (v : V) : EV → Prop
  | .dat d => R c.K G v d
  | .slot i => σ[i]? = some (some v)
  | .new d => ∃ p, v = .ref p ∧ c.H0 p = none ∧ G p = none ∧ RO c.K G H p d ∧ Apart c env σ p
def Slot.data : Slot → Option D
  | .imm d | .own d | .par d | .fpar d => some d
  | _ => none
def cont (env : Env) : EV → Option D
  | .dat d => some d
  | .slot i => (env[i]?).bind Slot.data
  | .new _ => none

/-- readable: the thing at H, its parts data -/
inductive S (K : PySem.W.Frag) (G H : Hp) : V → D → Prop
  | dat {v : V} {d : D} : R K G v d → S K G H v d
  | lst {a : Addr} {xs : List V} {ds : List D} : H a = some (.lst xs) → RA K G xs ds → S K G H (.ref a) (.lst ds)
  | dic {a : Addr} {kvs : List (Key × V)} {ds : List (Key × D)} : H a = some (.dK kvs) → RK K G kvs ds → S K G H (.ref a) (.dic ds)
theorem S.r {K : PySem.W.Frag} {v : V} {d : D} (s : Sub G H) (h : S K G H v d) : R K H v d := by
  cases h with
  | dat h => exact h.mono s
  | lst h1 h2 => exact .lst h1 (h2.mono s)
  | dic h1 h2 => exact .dic (.inl h1) (h2.mono s)
theorem S.l {K : PySem.W.Frag} {v : V} {ds : List D} (s : Sub G H) (h : S K G H v (.lst ds)) : ∃ a xs, v = .ref a ∧ H a = some (.lst xs) ∧ RA K G xs ds := by
  cases h with
  | dat h => cases h with | lst h1 h2 => exact ⟨_, _, rfl, s.lst h1, h2⟩
  | lst h1 h2 => exact ⟨_, _, rfl, h1, h2⟩
theorem S.f {K : PySem.W.Frag} {v : V} {ds : List D} (s : Sub G H) (h : S K G H v (.frl ds)) : ∃ a xs, v = .ref a ∧ SqL K H a xs ∧ RA K G xs ds := by
  cases h with
  | dat h => cases h with | frl h1 h2 => exact ⟨_, _, rfl, s.sqL h1, h2⟩
theorem S.t {K : PySem.W.Frag} {v : V} {ds : List D} (s : Sub G H) (h : S K G H v (.tup ds)) : ∃ a xs, v = .ref a ∧ GT K G a xs ∧ SqT K H a xs ∧ RA K G xs ds := by
  cases h with
  | dat h => cases h with | tup h1 h2 => exact ⟨_, _, rfl, h1, s.sqT h1.1, h2⟩
theorem S.p {K : PySem.W.Frag} {v : V} {ds : List D} (s : Sub G H) (h : S K G H v (.prs ds)) : ∃ a xs, v = .ref a ∧ SqT K G a xs ∧ SqT K H a xs ∧ RA K G xs ds := by
  cases h with
  | dat h => cases h with | prs h1 h2 => exact ⟨_, _, rfl, h1, s.sqT h1, h2⟩
theorem S.d {K : PySem.W.Frag} {v : V} {ds : List (Key × D)} (s : Sub G H) (h : S K G H v (.dic ds)) : ∃ a kvs, v = .ref a ∧ Rd H a (.dK kvs) ∧ RK K G kvs ds := by
  cases h with
  | dat h => cases h with | dic h1 h2 => exact ⟨_, _, rfl, s.dK h1, h2⟩
  | dic h1 h2 => exact ⟨_, _, rfl, .inl h1, h2⟩
theorem S.i {K : PySem.W.Frag} {v : V} {i : Int} (h : S K G H v (.int i)) : v = .int i := by
  cases h with
  | dat h => cases h; rfl
theorem S.s {K : PySem.W.Frag} {v : V} {x : Str} (h : S K G H v (.str x)) : v = .str x := by
  cases h with
  | dat h => cases h; rfl
theorem S.b {K : PySem.W.Frag} {v : V} {b : Bool} (h : S K G H v (.bl b)) : v = .bl b := by
  cases h with
  | dat h => cases h; rfl
theorem S.n {K : PySem.W.Frag} {v : V} (h : S K G H v .non) : v = .non := by
  cases h with
  | dat h => cases h; rfl

theorem Rel.read (r : Rel c G env σ H) {v : V} {ev : EV} {d : D} (h : RV c G env σ H v ev) (e : cont env ev = some d) : S c.K G H v d := by
  cases ev with
  | dat d' =>
    cases e
    exact .dat h
  | new d' => cases e
  | slot i =>
    have e : (env[i]?).bind Slot.data = some d := e
    cases he : env[i]? with
    | none =>
      rw [he] at e
      cases e
    | some s =>
      rw [he] at e
      have so := r.slot i s he
      have hw : σ[i]? = some (some v) := h
      cases s with
      | no => cases e
      | exc x fs => cases e
      | imm d' =>
        cases e
        obtain ⟨v', e1, e2⟩ := so
        rw [hw] at e1
        cases e1
        exact .dat e2
      | fpar d' =>
        cases e
        obtain ⟨p, e1, _, e2⟩ := so
        rw [hw] at e1
        cases e1
        exact .dat e2
      | own d' =>
        cases e
        obtain ⟨p, e1, _, _, e2⟩ := so
        rw [hw] at e1
        cases e1
        cases d with
        | lst ds =>
          obtain ⟨xs, a, b⟩ := e2
          exact .lst a b
        | dic ds =>
          obtain ⟨xs, a, b⟩ := e2
          exact .dic a b
        | _ => exact e2.elim
      | par d' =>
        cases e
        obtain ⟨p, e1, _, _, e2⟩ := so
        rw [hw] at e1
        cases e1
        cases d with
        | lst ds =>
          obtain ⟨xs, a, b⟩ := e2
          exact .lst a b
        | dic ds =>
          obtain ⟨xs, a, b⟩ := e2
          exact .dic a b
        | _ => exact e2.elim

/-! ### freezing -/
def frz1 (env : Env) (i : Nat) : Option (D × Env) := match env[i]? with
  | some (.imm d) => some (d, env)
  | some (.fpar d) => some (d, env)
  | some (.own d) => some (d, env.set i (.imm d))
  | some (.par d) => some (d, env.set i (.fpar d))
  | _ => none
def freeze (env : Env) : EV → Option (D × Env)
  | .dat d => some (d, env)
  | .new d => some (d, env)
  | .slot i => frz1 env i
theorem getElem?_set_cases {α : Type} {l : List α} {i j : Nat} {a x : α} (h : (l.set i a)[j]? = some x) : (i = j ∧ x = a) ∨ (i ≠ j ∧ l[j]? = some x) := by
  by_cases e : i = j
  · subst e
    by_cases hl : i < l.length
    · rw [List.getElem?_set_self hl] at h
      exact .inl ⟨rfl, (Option.some.inj h).symm⟩
    · rw [List.getElem?_eq_none (by simpa using hl)] at h
      cases h
  · rw [List.getElem?_set_ne e] at h
    exact .inr ⟨e, h⟩
theorem getElem?_set_of {α : Type} {l : List α} {i j : Nat} {a x : α} (h : l[j]? = some x) : ∃ y, (l.set i a)[j]? = some y ∧ ((i = j ∧ y = a) ∨ (i ≠ j ∧ y = x)) := by
  by_cases e : i = j
  · subst e
    have hl : i < l.length := (List.getElem?_eq_some_iff.mp h).1
    exact ⟨a, List.getElem?_set_self hl, .inl ⟨rfl, rfl⟩⟩
  · exact ⟨x, by rw [List.getElem?_set_ne e]; exact h, .inr ⟨e, rfl⟩⟩
/-- a slot's object becomes data; its slot says so -/
theorem Rel.freezeO (r : Rel c G env σ H) {i : Nat} {d : D} (he : env[i]? = some (.own d)) : ∃ p G', σ[i]? = some (some (.ref p)) ∧ Rel c G' (env.set i (.imm d)) σ H ∧ Gle G G' ∧ R c.K G' (.ref p) d := by
  obtain ⟨p, hw, h0, hg, ro⟩ := r.slot i _ he
  obtain ⟨o, ho, hr, hk⟩ := ro.has
  have rr : R c.K (upd G p o) (.ref p) d := hr _ upd_same (Gle.upd hg)
  refine ⟨p, upd G p o, hw, ⟨?_, ?_, ?_, r.keep, r.lks, r.pah, r.pinj, by rw [List.length_set]; exact r.len, ?_, ?_, ?_, ?_⟩, Gle.upd hg, rr⟩
  · intro a u e
    by_cases z : a = p
    · subst z
      rw [upd_same] at e
      cases e
      exact .inl ho
    · rw [upd_ne z] at e
      exact r.sub a u e
  · exact r.g0.trans (Gle.upd hg)
  · intro a ha hp
    have ne : a ≠ p := fun z => ha (by rw [z]; exact h0)
    rw [upd_ne ne]
    exact r.gfix a ha hp
  · intro j s hs
    rcases getElem?_set_cases hs with ⟨rfl, rfl⟩ | ⟨hne, hs'⟩
    · exact ⟨_, hw, rr⟩
    · have so := r.slot j s hs'
      refine so.heap (Gle.upd hg) fun q hq hgq hs2 => ⟨?_, rfl⟩
      have ne : q ≠ p := fun z => by
        subst z
        obtain ⟨d', rfl | rfl⟩ := hs2
        · exact hne (r.dist i j q _ _ he hs' hw hq)
        · obtain ⟨p', e1, e2, _⟩ := so
          rw [hq] at e1
          cases e1
          exact r.nopa h0 j e2
      rw [upd_ne ne]
      exact hgq
  · intro j k q d1 d2 h1 h2 h3 h4
    rcases getElem?_set_cases h1 with ⟨_, z⟩ | ⟨_, h1'⟩
    · cases z
    · rcases getElem?_set_cases h2 with ⟨_, z⟩ | ⟨_, h2'⟩
      · cases z
      · exact r.dist j k q _ _ h1' h2' h3 h4
  · intro a u e
    obtain ⟨h1, h2, h3⟩ := r.frs a u e
    have ne : a ≠ p := fun z => by
      rw [z, r.frown (.inl he) hw] at e
      cases e
    refine ⟨h1, by rw [upd_ne ne]; exact h2, fun j d' hj => ?_⟩
    rcases hj with hj | hj
    · rcases getElem?_set_cases hj with ⟨_, z⟩ | ⟨_, hj'⟩
      · cases z
      · exact h3 j d' (.inl hj')
    · rcases getElem?_set_cases hj with ⟨_, z⟩ | ⟨_, hj'⟩
      · cases z
      · exact h3 j d' (.inr hj')
  · intro j q hq
    obtain ⟨d', h | h⟩ := r.pars j q hq
    · have ne : i ≠ j := fun z => by
        subst z
        rw [he] at h
        cases h
      exact ⟨d', .inl (by rw [List.getElem?_set_ne ne]; exact h)⟩
    · have ne : i ≠ j := fun z => by
        subst z
        rw [he] at h
        cases h
      exact ⟨d', .inr (by rw [List.getElem?_set_ne ne]; exact h)⟩
theorem Rel.freezeP (r : Rel c G env σ H) {i : Nat} {d : D} (he : env[i]? = some (.par d)) : ∃ p G', σ[i]? = some (some (.ref p)) ∧ Rel c G' (env.set i (.fpar d)) σ H ∧ Gle G G' ∧ R c.K G' (.ref p) d := by
  obtain ⟨p, hw, h0, hg, ro⟩ := r.slot i _ he
  obtain ⟨o, ho, hr, hk⟩ := ro.has
  have rr : R c.K (upd G p o) (.ref p) d := hr _ upd_same (Gle.upd hg)
  refine ⟨p, upd G p o, hw, ⟨?_, ?_, ?_, r.keep, r.lks, r.pah, r.pinj, by rw [List.length_set]; exact r.len, ?_, ?_, ?_, ?_⟩, Gle.upd hg, rr⟩
  · intro a u e
    by_cases z : a = p
    · subst z
      rw [upd_same] at e
      cases e
      exact .inl ho
    · rw [upd_ne z] at e
      exact r.sub a u e
  · exact r.g0.trans (Gle.upd hg)
  · intro a ha hp
    have ne : a ≠ p := fun z => hp i (by rw [z]; exact h0)
    rw [upd_ne ne]
    exact r.gfix a ha hp
  · intro j s hs
    rcases getElem?_set_cases hs with ⟨rfl, rfl⟩ | ⟨hne, hs'⟩
    · exact ⟨_, hw, h0, rr⟩
    · have so := r.slot j s hs'
      refine so.heap (Gle.upd hg) fun q hq hgq hs2 => ⟨?_, rfl⟩
      have ne : q ≠ p := fun z => by
        subst z
        obtain ⟨d', rfl | rfl⟩ := hs2
        · obtain ⟨p', e1, e2, _⟩ := so
          rw [hq] at e1
          cases e1
          exact r.nopa e2 i h0
        · obtain ⟨p', e1, e2, _⟩ := so
          rw [hq] at e1
          cases e1
          exact hne (r.pinj i j q h0 e2)
      rw [upd_ne ne]
      exact hgq
  · intro j k q d1 d2 h1 h2 h3 h4
    rcases getElem?_set_cases h1 with ⟨_, z⟩ | ⟨_, h1'⟩
    · cases z
    · rcases getElem?_set_cases h2 with ⟨_, z⟩ | ⟨_, h2'⟩
      · cases z
      · exact r.dist j k q _ _ h1' h2' h3 h4
  · intro a u e
    obtain ⟨h1, h2, h3⟩ := r.frs a u e
    have ne : a ≠ p := fun z => by
      rw [z, r.frown (.inr he) hw] at e
      cases e
    refine ⟨h1, by rw [upd_ne ne]; exact h2, fun j d' hj => ?_⟩
    rcases hj with hj | hj
    · rcases getElem?_set_cases hj with ⟨_, z⟩ | ⟨_, hj'⟩
      · cases z
      · exact h3 j d' (.inl hj')
    · rcases getElem?_set_cases hj with ⟨_, z⟩ | ⟨_, hj'⟩
      · cases z
      · exact h3 j d' (.inr hj')
  · intro j q hq
    obtain ⟨d', h⟩ := r.pars j q hq
    by_cases ne : i = j
    · subst ne
      have hl : i < env.length := (List.getElem?_eq_some_iff.mp he).1
      exact ⟨d, .inr (List.getElem?_set_self hl)⟩
    · exact ⟨d', by rw [List.getElem?_set_ne ne]; exact h⟩
theorem Rel.freeze (r : Rel c G env σ H) {v : V} {ev : EV} {d : D} {env' : Env} (h : RV c G env σ H v ev) (e : freeze env ev = some (d, env')) : ∃ G', Rel c G' env' σ H ∧ Gle G G' ∧ R c.K G' v d := by
  cases ev with
  | dat d' =>
    cases e
    exact ⟨G, r, Gle.refl G, h⟩
  | new d' =>
    cases e
    obtain ⟨p, rfl, h0, hg, ro, ap⟩ := h
    obtain ⟨o, ho, hr, hk⟩ := ro.has
    exact ⟨_, r.freezeT ho h0 hg ap, Gle.upd hg, hr _ upd_same (Gle.upd hg)⟩
  | slot i =>
    have hw : σ[i]? = some (some v) := h
    have e : frz1 env i = some (d, env') := e
    unfold frz1 at e
    cases he : env[i]? with
    | none =>
      rw [he] at e
      cases e
    | some s =>
      rw [he] at e
      cases s with
      | no => cases e
      | exc x fs => cases e
      | imm d' =>
        cases e
        obtain ⟨v', e1, e2⟩ := r.slot i _ he
        rw [hw] at e1
        cases e1
        exact ⟨G, r, Gle.refl G, e2⟩
      | fpar d' =>
        cases e
        obtain ⟨p, e1, _, e2⟩ := r.slot i _ he
        rw [hw] at e1
        cases e1
        exact ⟨G, r, Gle.refl G, e2⟩
      | own d' =>
        cases e
        obtain ⟨p, G', e1, r', l, q⟩ := r.freezeO he
        rw [hw] at e1
        cases e1
        exact ⟨G', r', l, q⟩
      | par d' =>
        cases e
        obtain ⟨p, G', e1, r', l, q⟩ := r.freezeP he
        rw [hw] at e1
        cases e1
        exact ⟨G', r', l, q⟩

/-! ### storing to a slot -/
/-- may slot i be stored to -/
def storable (env : Env) (i : Nat) : Bool := match env[i]? with
  | some (.par _) | some (.fpar _) => false
  | some _ => true
  | none => false
theorem Rel.store (r : Rel c G env σ H) {i : Nat} {v : V} {s : Slot} (hs : storable env i = true) (so : SlotOk c G H i (some (some v)) s)
    (hd : ∀ d p, s = .own d → v = .ref p → Apart c env σ p) (hp : ∀ d, s ≠ .par d ∧ s ≠ .fpar d) : Rel c G (env.set i s) (σ.set i (some v)) H where
  lks := r.lks
  sub := r.sub
  g0 := r.g0
  gfix := r.gfix
  keep := r.keep
  pah := r.pah
  pinj := r.pinj
  len := by rw [List.length_set, List.length_set]; exact r.len
  slot := fun j t ht => by
    rcases getElem?_set_cases ht with ⟨rfl, rfl⟩ | ⟨hne, ht'⟩
    · have hl : i < σ.length := by
        rw [← r.len]
        have := (List.getElem?_eq_some_iff.mp ht).1
        rw [List.length_set] at this
        exact this
      rw [List.getElem?_set_self hl]
      exact so
    · rw [List.getElem?_set_ne hne]
      exact r.slot j t ht'
  dist := fun j k q d1 d2 h1 h2 h3 h4 => by
    rcases getElem?_set_cases h1 with ⟨rfl, z⟩ | ⟨n1, h1'⟩
    · rcases getElem?_set_cases h2 with ⟨rfl, z2⟩ | ⟨n2, h2'⟩
      · rfl
      · rw [List.getElem?_set_ne n2] at h4
        have hl : i < σ.length := by
          rw [← r.len]
          have := (List.getElem?_eq_some_iff.mp h1).1
          rw [List.length_set] at this
          exact this
        rw [List.getElem?_set_self hl] at h3
        cases h3
        exact absurd h4 ((hd d1 q z.symm rfl).1 k d2 h2')
    · rw [List.getElem?_set_ne n1] at h3
      rcases getElem?_set_cases h2 with ⟨rfl, z2⟩ | ⟨n2, h2'⟩
      · have hl : i < σ.length := by
          rw [← r.len]
          have := (List.getElem?_eq_some_iff.mp h2).1
          rw [List.length_set] at this
          exact this
        rw [List.getElem?_set_self hl] at h4
        cases h4
        exact absurd h3 ((hd d2 q z2.symm rfl).1 j d1 h1')
      · rw [List.getElem?_set_ne n2] at h4
        exact r.dist j k q _ _ h1' h2' h3 h4
  frs := fun a u e => by
    obtain ⟨h1, h2, h3⟩ := r.frs a u e
    refine ⟨h1, h2, fun j d hj => ?_⟩
    by_cases z : i = j
    · subst z
      rcases hj with hj | hj
      · rcases getElem?_set_cases hj with ⟨_, z2⟩ | ⟨n, _⟩
        · have hl : i < σ.length := by
            rw [← r.len]
            have := (List.getElem?_eq_some_iff.mp hj).1
            rw [List.length_set] at this
            exact this
          rw [List.getElem?_set_self hl]
          intro z3
          cases z3
          have := (hd d a z2.symm rfl).2
          rw [e] at this
          cases this
        · exact absurd rfl n
      · rcases getElem?_set_cases hj with ⟨_, z2⟩ | ⟨n, _⟩
        · exact absurd z2.symm (hp d).1
        · exact absurd rfl n
    · rw [List.getElem?_set_ne z]
      rw [List.getElem?_set_ne z] at hj
      exact h3 j d hj
  pars := fun j q hq => by
    obtain ⟨d, h⟩ := r.pars j q hq
    have ne : i ≠ j := fun z => by
      subst z
      unfold storable at hs
      rcases h with h | h <;> (rw [h] at hs; cases hs)
    exact ⟨d, by rw [List.getElem?_set_ne ne]; exact h⟩
/-- what a store of a value makes of the slots: data, or the slot's own -/
def put (env : Env) (i : Nat) (s : Slot) : Option Env := if storable env i then some (env.set i s) else none
def assign (env : Env) (i : Nat) : EV → Option Env
  | .dat d => put env i (.imm d)
  | .new d => put env i (.own d)
  | .slot j => (frz1 env j).bind fun x => put x.2 i (.imm x.1)
theorem Rel.assign (r : Rel c G env σ H) {i : Nat} {v : V} {ev : EV} {env' : Env} (h : RV c G env σ H v ev) (e : assign env i ev = some env') : ∃ G', Rel c G' env' (σ.set i (some v)) H ∧ Gle G G' := by
  cases ev with
  | dat d =>
    have e : put env i (.imm d) = some env' := e
    unfold put at e
    split at e
    · rename_i hs
      cases e
      exact ⟨G, r.store hs ⟨v, rfl, h⟩ (fun _ _ z => by cases z) (fun _ => ⟨(fun z => by cases z), (fun z => by cases z)⟩), Gle.refl G⟩
    · cases e
  | new d =>
    have e : put env i (.own d) = some env' := e
    unfold put at e
    split at e
    · rename_i hs
      cases e
      obtain ⟨p, rfl, h0, hg, ro, ap⟩ := h
      exact ⟨G, r.store hs ⟨p, rfl, h0, hg, ro⟩ (fun _ q _ z => by cases z; exact ap) (fun _ => ⟨(fun z => by cases z), (fun z => by cases z)⟩), Gle.refl G⟩
    · cases e
  | slot j =>
    have e : ((frz1 env j).bind fun x => put x.2 i (.imm x.1)) = some env' := e
    cases hf : frz1 env j with
    | none =>
      rw [hf] at e
      cases e
    | some x =>
      obtain ⟨d, env1⟩ := x
      rw [hf] at e
      have e : put env1 i (.imm d) = some env' := e
      unfold put at e
      split at e
      · rename_i hs
        cases e
        obtain ⟨G', r', l, q⟩ := r.freeze (ev := .slot j) h hf
        exact ⟨G', r'.store hs ⟨v, rfl, q⟩ (fun _ _ z => by cases z) (fun _ => ⟨(fun z => by cases z), (fun z => by cases z)⟩), l⟩
      · cases e

/-! ### changing a slot's object -/
def setOwn (env : Env) (i : Nat) (d : D) : Option Env := match env[i]? with
  | some (.own _) => some (env.set i (.own d))
  | some (.par _) => some (env.set i (.par d))
  | _ => none
theorem Rel.mutate (r : Rel c G env σ H) {i : Nat} {p : Addr} {d : D} {o : HO} {env' : Env} (hw : σ[i]? = some (some (.ref p))) (e : setOwn env i d = some env') (ro : ∀ H', H' p = some o → RO c.K G H' p d) : Rel c G env' σ (upd H p o) := by
  have key : ∀ s s' : Slot, env[i]? = some s → ((∃ d0, s = .own d0) ∧ s' = .own d ∨ (∃ d0, s = .par d0) ∧ s' = .par d) → Rel c G (env.set i s') σ (upd H p o) := by
    intro s s' he hk
    have so := r.slot i s he
    have hg : G p = none := by
      rcases hk with ⟨⟨d0, rfl⟩, _⟩ | ⟨⟨d0, rfl⟩, _⟩ <;> (obtain ⟨p', e1, _, e3, _⟩ := so; rw [hw] at e1; cases e1; exact e3)
    have hH : H p ≠ none := by
      rcases hk with ⟨⟨d0, rfl⟩, _⟩ | ⟨⟨d0, rfl⟩, _⟩ <;> (obtain ⟨p', e1, _, e3, e4⟩ := so; rw [hw] at e1; cases e1; obtain ⟨o', ho, _⟩ := e4.has; rw [ho]; intro z; cases z)
    refine ⟨?_, r.g0, r.gfix, ?_, ?_, ?_, r.pinj, by rw [List.length_set]; exact r.len, ?_, ?_, ?_, ?_⟩
    · intro a u ha
      have ne : a ≠ p := fun z => by
        rw [z, hg] at ha
        cases ha
      rw [upd_ne ne]
      exact r.sub a u ha
    · intro a u ha hp
      have ne : a ≠ p := fun z => by
        subst z
        rcases hk with ⟨⟨d0, rfl⟩, _⟩ | ⟨⟨d0, rfl⟩, _⟩
        · obtain ⟨p', e1, e2, _⟩ := so
          rw [hw] at e1
          cases e1
          rw [e2] at ha
          cases ha
        · obtain ⟨p', e1, e2, _⟩ := so
          rw [hw] at e1
          cases e1
          exact hp i e2
      rw [upd_ne ne]
      exact r.keep a u ha hp
    · intro a ob u ha
      have h1 := r.lks a ob u ha
      have ne : a ≠ p := fun z => by
        subst z
        rcases hk with ⟨⟨d0, rfl⟩, _⟩ | ⟨⟨d0, rfl⟩, _⟩ <;>
          (obtain ⟨p', e1, _, e3, e4⟩ := so; rw [hw] at e1; cases e1; obtain ⟨o', ho, _, hko⟩ := e4.has; rw [ho] at h1; cases h1; rcases hko with ⟨_, z⟩ | ⟨_, z⟩ <;> cases z)
      rw [upd_ne ne]
      exact h1
    · intro j q hq
      refine ⟨(r.pah j q hq).1, ?_⟩
      by_cases z : q = p
      · rw [z, upd_same]
        intro z2
        cases z2
      · rw [upd_ne z]
        exact (r.pah j q hq).2
    · intro j t ht
      rcases getElem?_set_cases ht with ⟨rfl, rfl⟩ | ⟨hne, ht'⟩
      · rcases hk with ⟨⟨d0, rfl⟩, rfl⟩ | ⟨⟨d0, rfl⟩, rfl⟩
        · obtain ⟨p', e1, e2, e3, _⟩ := so
          rw [hw] at e1
          cases e1
          exact ⟨p, hw, e2, e3, ro _ upd_same⟩
        · obtain ⟨p', e1, e2, e3, _⟩ := so
          rw [hw] at e1
          cases e1
          exact ⟨p, hw, e2, e3, ro _ upd_same⟩
      · have so' := r.slot j t ht'
        refine so'.heap (Gle.refl G) fun q hq hgq hs2 => ⟨hgq, upd_ne fun z => ?_⟩
        subst z
        obtain ⟨d', rfl | rfl⟩ := hs2
        · rcases hk with ⟨⟨d0, rfl⟩, rfl⟩ | ⟨⟨d0, rfl⟩, rfl⟩
          · exact hne (r.dist i j q _ _ he ht' hw hq)
          · obtain ⟨p', e1, e2, _⟩ := so
            rw [hw] at e1
            cases e1
            obtain ⟨p', e1, e3, _⟩ := so'
            rw [hq] at e1
            cases e1
            exact r.nopa e3 i e2
        · rcases hk with ⟨⟨d0, rfl⟩, rfl⟩ | ⟨⟨d0, rfl⟩, rfl⟩
          · obtain ⟨p', e1, e2, _⟩ := so
            rw [hw] at e1
            cases e1
            obtain ⟨p', e1, e3, _⟩ := so'
            rw [hq] at e1
            cases e1
            exact r.nopa e2 j e3
          · obtain ⟨p', e1, e2, _⟩ := so
            rw [hw] at e1
            cases e1
            obtain ⟨p', e1, e3, _⟩ := so'
            rw [hq] at e1
            cases e1
            exact hne (r.pinj i j q e2 e3)
    · intro j k q d1 d2 h1 h2 h3 h4
      have back : ∀ {m : Nat} {dd : D}, (env.set i s')[m]? = some (.own dd) → ∃ d0, env[m]? = some (.own d0) := by
        intro m dd hm
        rcases getElem?_set_cases hm with ⟨rfl, z⟩ | ⟨_, h⟩
        · rcases hk with ⟨⟨d0, rfl⟩, rfl⟩ | ⟨⟨d0, rfl⟩, rfl⟩
          · exact ⟨d0, he⟩
          · cases z
        · exact ⟨dd, h⟩
      obtain ⟨_, h1'⟩ := back h1
      obtain ⟨_, h2'⟩ := back h2
      exact r.dist j k q _ _ h1' h2' h3 h4
    · intro a u e
      obtain ⟨h1, h2, h3⟩ := r.frs a u e
      have hop : ∃ d0, env[i]? = some (.own d0) ∨ env[i]? = some (.par d0) := by
        rcases hk with ⟨⟨d0, rfl⟩, _⟩ | ⟨⟨d0, rfl⟩, _⟩
        · exact ⟨d0, .inl he⟩
        · exact ⟨d0, .inr he⟩
      obtain ⟨d0, hop⟩ := hop
      have ne : a ≠ p := fun z => by
        rw [z, r.frown hop hw] at e
        cases e
      refine ⟨by rw [upd_ne ne]; exact h1, h2, fun j d' hj => ?_⟩
      by_cases z : i = j
      · subst z
        rw [hw]
        intro z3
        cases z3
        exact ne rfl
      · rw [List.getElem?_set_ne z] at hj
        exact h3 j d' hj
    · intro j q hq
      obtain ⟨d', h⟩ := r.pars j q hq
      by_cases ne : i = j
      · subst ne
        have hl : i < env.length := (List.getElem?_eq_some_iff.mp he).1
        rcases hk with ⟨⟨d0, rfl⟩, rfl⟩ | ⟨⟨d0, rfl⟩, rfl⟩
        · rcases h with h | h <;> (rw [he] at h; cases h)
        · exact ⟨d, .inl (List.getElem?_set_self hl)⟩
      · exact ⟨d', by rw [List.getElem?_set_ne ne]; exact h⟩
  unfold setOwn at e
  split at e
  · rename_i d0 he
    cases e
    exact key _ _ he (.inl ⟨⟨d0, rfl⟩, rfl⟩)
  · rename_i d0 he
    cases e
    exact key _ _ he (.inr ⟨⟨d0, rfl⟩, rfl⟩)
  · cases e
end
end DL

namespace DL
open PySem L2 PySem.Spec PyProof.Rows

/-! ### outcomes -/
inductive Out (α : Type) where
  | val (a : α) (env : Env) | exc (x : Str) (fs : Option (List (Str × D))) (env : Env) | stuck
  deriving Inhabited
def Out.bind {α β : Type} (o : Out α) (k : α → Env → Out β) : Out β := match o with
  | .val a e => k a e
  | .exc x f e => .exc x f e
  | .stuck => .stuck
@[simp] theorem Out.bind_val {α β : Type} (a : α) (e : Env) (k : α → Env → Out β) : (Out.val a e).bind k = k a e := rfl
@[simp] theorem Out.bind_stuck {α β : Type} (k : α → Env → Out β) : (Out.stuck : Out α).bind k = .stuck := rfl
@[simp] theorem Out.bind_exc {α β : Type} (x : Str) (f : Option (List (Str × D))) (e : Env) (k : α → Env → Out β) : (Out.exc x f e : Out α).bind k = .exc x f e := rfl
def Out.of {α : Type} (o : Option α) (env : Env) : Out α := match o with
  | some a => .val a env
  | none => .stuck
@[simp] theorem Out.of_some {α : Type} (a : α) (env : Env) : Out.of (some a) env = .val a env := rfl
@[simp] theorem Out.of_none {α : Type} (env : Env) : (Out.of none env : Out α) = .stuck := rfl

def Post (c : Ctx) (G : Hp) (σ : L2.St) (W : WX) {α β : Type} (P : Hp → Env → Hp → α → β → Prop) (Q : β → Hp → Prop) : Out α → Prop
  | .val a env' => ∀ b G' H', Rel c G' env' σ H' → Gle G G' → P G' env' H' a b → Q b H'
  | .exc x fs env' => ∀ cls d G' H', Rel c G' env' σ H' → Gle G G' → XOk c G' x fs cls d → W cls d σ H'
  | .stuck => False
def PV (c : Ctx) (σ : L2.St) : Hp → Env → Hp → EV → V → Prop := fun G env H ev v => RV c G env σ H v ev
/-- a value that lasts -/
def RD (c : Ctx) (G : Hp) (σ : L2.St) (v : V) : EV → Prop
  | .dat d => R c.K G v d
  | .slot i => σ[i]? = some (some v)
  | .new _ => False
def PD (c : Ctx) (σ : L2.St) : Hp → Env → Hp → EV → V → Prop := fun G _ _ ev v => RD c G σ v ev
def PB : Hp → Env → Hp → Bool → Bool → Prop := fun _ _ _ b b' => b = b'
def RDs (c : Ctx) (G : Hp) (σ : L2.St) : List V → List EV → Prop
  | [], [] => True
  | v :: vs, e :: es => RD c G σ v e ∧ RDs c G σ vs es
  | _, _ => False
def PL (c : Ctx) (σ : L2.St) : Hp → Env → Hp → List EV → List V → Prop := fun G _ _ es vs => RDs c G σ vs es
theorem RD.rv {c : Ctx} {G : Hp} {env : Env} {σ : L2.St} {H : Hp} {v : V} {ev : EV} (h : RD c G σ v ev) : RV c G env σ H v ev := by
  cases ev with
  | dat d => exact h
  | slot i => exact h
  | new d => exact h.elim
theorem RD.mono {c : Ctx} {G G' : Hp} {σ : L2.St} {v : V} {ev : EV} (l : Gle G G') (h : RD c G σ v ev) : RD c G' σ v ev := by
  cases ev with
  | dat d => exact R.mono l.sub h
  | slot i => exact h
  | new d => exact h.elim
theorem RDs.mono {c : Ctx} {G G' : Hp} {σ : L2.St} (l : Gle G G') : ∀ {vs : List V} {es : List EV}, RDs c G σ vs es → RDs c G' σ vs es
  | [], [], _ => trivial
  | _ :: _, _ :: _, ⟨h1, h2⟩ => ⟨h1.mono l, h2.mono l⟩
  | [], _ :: _, h => h.elim
  | _ :: _, [], h => h.elim

section
variable (K : PySem.W.Frag) (mg : MX) (W : WX)
def SemE (t : TE) (f : Env → Out EV) : Prop := ∀ c G env σ H, c.K = K → (c.mg, c.xa) = mg → Rel c G env σ H → ∀ Q : VK, Post c G σ W (PV c σ) Q (f env) → t σ H Q
def SemD (t : TE) (f : Env → Out EV) : Prop := ∀ c G env σ H, c.K = K → (c.mg, c.xa) = mg → Rel c G env σ H → ∀ Q : VK, Post c G σ W (PD c σ) Q (f env) → t σ H Q
def SemT (t : TT) (f : Env → Out Bool) : Prop := ∀ c G env σ H, c.K = K → (c.mg, c.xa) = mg → Rel c G env σ H → ∀ Q : Bool → Hp → Prop, Post c G σ W PB Q (f env) → t σ H Q
def SemA (t : TA) (f : Env → Out (List EV)) : Prop := ∀ c G env σ H, c.K = K → (c.mg, c.xa) = mg → Rel c G env σ H → ∀ Q : List V → Hp → Prop, Post c G σ W (PL c σ) Q (f env) → t σ H Q
end
section
variable {K : PySem.W.Frag} {mg : MX} {W : WX}

/-- sequencing: what is wanted of the second part, at the first one's end -/
theorem post_bind {c : Ctx} {G : Hp} {σ : L2.St} {α β α' β' : Type} {P : Hp → Env → Hp → α → β → Prop} {P' : Hp → Env → Hp → α' → β' → Prop} {Q : β → Hp → Prop} {Q' : β' → Hp → Prop} {o : Out α} {k : α → Env → Out α'}
    (h : Post c G σ W P' Q' (o.bind k)) (hk : ∀ a env' b G' H', Rel c G' env' σ H' → Gle G G' → P G' env' H' a b → Post c G' σ W P' Q' (k a env') → Q b H') : Post c G σ W P Q o := by
  cases o with
  | val a e =>
    intro b G' H' r l p
    refine hk a e b G' H' r l p ?_
    have h : Post c G σ W P' Q' (k a e) := h
    revert h
    cases k a e with
    | val a2 e2 => exact fun h b2 G2 H2 r2 l2 p2 => h b2 G2 H2 r2 (l.trans l2) p2
    | exc x fs e2 => exact fun h cls d G2 H2 r2 l2 p2 => h cls d G2 H2 r2 (l.trans l2) p2
    | stuck => exact id
  | exc x fs e => exact h
  | stuck => exact h
theorem post_of {c : Ctx} {G : Hp} {σ : L2.St} {α β : Type} {P : Hp → Env → Hp → α → β → Prop} {Q : β → Hp → Prop} {o : Option α} {env : Env} (h : Post c G σ W P Q (Out.of o env)) : ∃ a, o = some a ∧ Post c G σ W P Q (Out.val a env) := by
  cases o with
  | none => exact h.elim
  | some a => exact ⟨a, rfl, h⟩

/-! ### values -/
def settle : EV → EV
  | .new d => .dat d
  | e => e
def settled (f : Env → Out EV) : Env → Out EV := fun env => (f env).bind fun ev e => .val (settle ev) e
theorem sem_settle {t : TE} {f : Env → Out EV} (h : SemE K mg W t f) : SemD K mg W t (settled f) := by
  intro c G env σ H hK hm r Q hQ
  refine h c G env σ H hK hm r Q (post_bind (P' := PD c σ) hQ fun ev e v G' H' r' l p q => ?_)
  have p : RV c G' e σ H' v ev := p
  cases ev with
  | dat d => exact q v G' H' r' (Gle.refl _) p
  | slot i => exact q v G' H' r' (Gle.refl _) p
  | new d =>
    obtain ⟨G2, r2, l2, p2⟩ := r'.freeze p rfl
    exact q v G2 H' r2 l2 p2
theorem SemD.e {t : TE} {f : Env → Out EV} (h : SemD K mg W t f) : SemE K mg W t f := by
  intro c G env σ H hK hm r Q hQ
  refine h c G env σ H hK hm r Q ?_
  cases he : f env with
  | val a e =>
    rw [he] at hQ
    exact fun b G' H' r' l p => hQ b G' H' r' l (RD.rv p)
  | exc x fs e =>
    rw [he] at hQ
    exact hQ
  | stuck =>
    rw [he] at hQ
    exact hQ
def eVar (i : Nat) : Env → Out EV := fun env => match env[i]? with
  | some (.imm d) => .val (.dat d) env
  | some (.fpar d) => .val (.dat d) env
  | some (.own _) => .val (.slot i) env
  | some (.par _) => .val (.slot i) env
  | _ => .stuck
theorem sem_var {i : Nat} : SemD K mg W (tVar i) (eVar i) := by
  intro c G env σ H hK hm r Q hQ
  unfold eVar at hQ
  split at hQ
  · rename_i d he
    obtain ⟨v, e1, e2⟩ := r.slot i _ he
    exact ⟨v, e1, hQ v G H r (Gle.refl G) e2⟩
  · rename_i d he
    obtain ⟨p, e1, _, e2⟩ := r.slot i _ he
    exact ⟨_, e1, hQ _ G H r (Gle.refl G) e2⟩
  · rename_i d he
    obtain ⟨p, e1, _, e2⟩ := r.slot i _ he
    exact ⟨_, e1, hQ _ G H r (Gle.refl G) e1⟩
  · rename_i d he
    obtain ⟨p, e1, _, e2⟩ := r.slot i _ he
    exact ⟨_, e1, hQ _ G H r (Gle.refl G) e1⟩
  · exact hQ.elim
def eC (d : D) : Env → Out EV := fun env => .val (.dat d) env
theorem sem_c {v : V} {d : D} (h : ∀ G, R K G v d) : SemD K mg W (tC v) (eC d) := by
  intro c G env σ H hK hm r Q hQ
  exact hQ v G H r (Gle.refl G) (show R c.K G v d by rw [hK]; exact h G)
theorem sem_int {i : Int} : SemD K mg W (tC (.int i)) (eC (.int i)) := sem_c fun _ => .int i
theorem sem_str {x : Str} : SemD K mg W (tC (.str x)) (eC (.str x)) := sem_c fun _ => .str x
theorem sem_bl {b : Bool} : SemD K mg W (tC (.bl b)) (eC (.bl b)) := sem_c fun _ => .bl b
theorem sem_non : SemD K mg W (tC .non) (eC .non) := sem_c fun _ => .non
theorem sem_any {v : V} : SemD K mg W (tC v) (eC (.any v)) := sem_c fun _ => .any v

/-- a two-place operation, by contents -/
def OpSem (K : PySem.W.Frag) (r : R2) (g : D → D → Option EV) : Prop := ∀ c G env σ H x y dx dy ev, c.K = K → Rel c G env σ H → S c.K G H x dx → S c.K G H y dy → g dx dy = some ev →
  ∀ Q : VK, (∀ v G' H', Rel c G' env σ H' → Gle G G' → RV c G' env σ H' v ev → Q v H') → r x y H Q
def eOp (g : D → D → Option EV) (fa fb : Env → Out EV) : Env → Out EV := fun env => (fa env).bind fun a e1 => (fb e1).bind fun b e2 =>
  Out.of ((cont e2 a).bind fun x => (cont e2 b).bind fun y => g x y) e2
theorem sem_op {r : R2} {g : D → D → Option EV} {ta tb : TE} {fa fb : Env → Out EV} (hr : OpSem K r g) (ha : SemD K mg W ta fa) (hb : SemD K mg W tb fb) : SemE K mg W (tOp r ta tb) (eOp g fa fb) := by
  intro c G env σ H hK hm r0 Q hQ
  refine ha c G env σ H hK hm r0 _ (post_bind hQ fun a e1 v G1 H1 r1 l1 p1 q1 => ?_)
  refine hb c G1 e1 σ H1 hK hm r1 _ (post_bind q1 fun b e2 u G2 H2 r2 l2 p2 q2 => ?_)
  obtain ⟨ev, he, q⟩ := post_of q2
  obtain ⟨dx, h1, he⟩ := Option.bind_eq_some_iff.mp he
  obtain ⟨dy, h2, he⟩ := Option.bind_eq_some_iff.mp he
  exact hr c G2 e2 σ H2 v u dx dy ev hK r2 (r2.read (RD.rv (p1.mono l2)) h1) (r2.read (RD.rv p2) h2) he Q q
def UnSem (K : PySem.W.Frag) (r : V → Hp → VK → Prop) (g : D → Option EV) : Prop := ∀ c G env σ H x dx ev, c.K = K → Rel c G env σ H → S c.K G H x dx → g dx = some ev →
  ∀ Q : VK, (∀ v G' H', Rel c G' env σ H' → Gle G G' → RV c G' env σ H' v ev → Q v H') → r x H Q
def eUn (g : D → Option EV) (fa : Env → Out EV) : Env → Out EV := fun env => (fa env).bind fun a e1 => Out.of ((cont e1 a).bind g) e1
theorem sem_un {r : V → Hp → VK → Prop} {g : D → Option EV} {ta : TE} {fa : Env → Out EV} (hr : UnSem K r g) (ha : SemD K mg W ta fa) : SemE K mg W (tUn r ta) (eUn g fa) := by
  intro c G env σ H hK hm r0 Q hQ
  refine ha c G env σ H hK hm r0 _ (post_bind hQ fun a e1 v G1 H1 r1 l1 p1 q1 => ?_)
  obtain ⟨ev, he, q⟩ := post_of q1
  obtain ⟨dx, h1, he⟩ := Option.bind_eq_some_iff.mp he
  exact hr c G1 e1 σ H1 v dx ev hK r1 (r1.read (RD.rv p1) h1) he Q q

/-! ### arguments -/
def aNil : Env → Out (List EV) := fun env => .val [] env
def aCons (fa : Env → Out EV) (fr : Env → Out (List EV)) : Env → Out (List EV) := fun env => (fa env).bind fun a e1 => (fr e1).bind fun as e2 => .val (a :: as) e2
theorem sem_nil : SemA K mg W tNil aNil := fun c G env σ H hK hm r Q hQ => hQ [] G H r (Gle.refl G) trivial
theorem sem_cons {ta : TE} {tr : TA} {fa : Env → Out EV} {fr : Env → Out (List EV)} (ha : SemD K mg W ta fa) (hr : SemA K mg W tr fr) : SemA K mg W (tCons ta tr) (aCons fa fr) := by
  intro c G env σ H hK hm r0 Q hQ
  refine ha c G env σ H hK hm r0 _ (post_bind hQ fun a e1 v G1 H1 r1 l1 p1 q1 => ?_)
  refine hr c G1 e1 σ H1 hK hm r1 _ (post_bind q1 fun as e2 vs G2 H2 r2 l2 p2 q2 => ?_)
  exact q2 (v :: vs) G2 H2 r2 (Gle.refl _) ⟨p1.mono l2, p2⟩
/-- all of them as data -/
def freezes : Env → List EV → Option (List D × Env)
  | env, [] => some ([], env)
  | env, e :: es => (freeze env e).bind fun x => (freezes x.2 es).bind fun y => some (x.1 :: y.1, y.2)
theorem Rel.freezes {c : Ctx} {σ : L2.St} {H : Hp} : ∀ {es : List EV} {env env' : Env} {G : Hp} {vs : List V} {ds : List D}, Rel c G env σ H → RDs c G σ vs es → freezes env es = some (ds, env') →
    ∃ G', Rel c G' env' σ H ∧ Gle G G' ∧ RA c.K G' vs ds
  | [], env, env', G, [], ds, r, _, e => by
    cases e
    exact ⟨G, r, Gle.refl G, .nil⟩
  | [], _, _, _, _ :: _, _, _, h, _ => h.elim
  | _ :: _, _, _, _, [], _, _, h, _ => h.elim
  | ev :: es, env, env', G, v :: vs, ds, r, ⟨h1, h2⟩, e => by
    obtain ⟨⟨d, e1⟩, hf, e⟩ := Option.bind_eq_some_iff.mp e
    obtain ⟨⟨ds', e2⟩, hf2, e⟩ := Option.bind_eq_some_iff.mp e
    cases e
    obtain ⟨G1, r1, l1, q1⟩ := r.freeze (RD.rv h1) hf
    obtain ⟨G2, r2, l2, q2⟩ := Rel.freezes r1 (h2.mono l1) hf2
    exact ⟨G2, r2, l1.trans l2, .cons (q1.mono l2.sub) q2⟩
/-- the contents of all of them -/
def conts (env : Env) : List EV → Option (List D)
  | [] => some []
  | e :: es => (cont env e).bind fun d => (conts env es).bind fun ds => some (d :: ds)

def small (n : Nat) : Bool := decide (n ≤ sizeLine)
def eTup (fa : Env → Out (List EV)) : Env → Out EV := fun env => (fa env).bind fun as e1 => (Out.of (freezes e1 as) e1).bind fun x _ => if small x.1.length then .val (.dat (.tup x.1)) x.2 else .stuck
theorem R.newtup {c : Ctx} {G H : Hp} {env : Env} {σ : L2.St} {vs : List V} {ds : List D} {p : Addr} {o : Obj} (hd : o.dict = none) (r : Rel c G env σ H) (h : RA c.K G vs ds) (hp : H p = none) : R c.K (upd G p (.frz o (.tup vs))) (.ref p) (.tup ds) :=
  .tup (GT.new upd_same hd) (h.mono (Gle.upd (r.freshG hp)).sub)
theorem sem_tup {ta : TA} {fa : Env → Out (List EV)} (ha : SemA K mg W ta fa) : SemD K mg W (tTupG ta) (eTup fa) := by
  intro c G env σ H hK hm r0 Q hQ
  refine ha c G env σ H hK hm r0 _ (post_bind hQ fun as e1 vs G1 H1 r1 l1 p1 q1 => ?_)
  cases hf : freezes e1 as with
  | none =>
    rw [hf] at q1
    exact q1.elim
  | some x =>
    obtain ⟨ds, e2⟩ := x
    rw [hf] at q1
    obtain ⟨G2, r2, l2, q2⟩ := r1.freezes p1 hf
    have q1 : Post c G1 σ W (PD c σ) Q (if small ds.length = true then .val (.dat (.tup ds)) e2 else .stuck) := q1
    by_cases hs : small ds.length = true
    · rw [if_pos hs] at q1
      have hlen : vs.length ≤ sizeLine := by
        rw [q2.length]
        exact of_decide_eq_true hs
      refine ⟨hlen, fun p o hp ho => ?_⟩
      exact q1 _ _ _ (r2.new hp) (l2.trans (Gle.upd (r2.freshG hp))) (R.newtup ho r2 q2 hp)
    · rw [if_neg hs] at q1
      exact q1.elim
/-- a new list is its own -/
theorem Rel.newlst {c : Ctx} {G H : Hp} {env : Env} {σ : L2.St} {vs : List V} {ds : List D} {p : Addr} (r : Rel c G env σ H) (h : RA c.K G vs ds) (hp : H p = none) : RV c G env σ (upd H p (.lst vs)) (.ref p) (.new (.lst ds)) :=
  ⟨p, rfl, r.fresh0 hp, r.freshG hp, ⟨vs, upd_same, h⟩, r.apart hp⟩
theorem Rel.newdic {c : Ctx} {G H : Hp} {env : Env} {σ : L2.St} {vs : List (Key × V)} {ds : List (Key × D)} {p : Addr} (r : Rel c G env σ H) (h : RK c.K G vs ds) (hp : H p = none) : RV c G env σ (upd H p (.dK vs)) (.ref p) (.new (.dic ds)) :=
  ⟨p, rfl, r.fresh0 hp, r.freshG hp, ⟨vs, upd_same, h⟩, r.apart hp⟩
def eLst (fa : Env → Out (List EV)) : Env → Out EV := fun env => (fa env).bind fun as e1 => (Out.of (freezes e1 as) e1).bind fun x _ => if small x.1.length then .val (.new (.lst x.1)) x.2 else .stuck
theorem sem_lst {ta : TA} {fa : Env → Out (List EV)} (ha : SemA K mg W ta fa) : SemE K mg W (tLst ta) (eLst fa) := by
  intro c G env σ H hK hm r0 Q hQ
  refine ha c G env σ H hK hm r0 _ (post_bind hQ fun as e1 vs G1 H1 r1 l1 p1 q1 => ?_)
  cases hf : freezes e1 as with
  | none =>
    rw [hf] at q1
    exact q1.elim
  | some x =>
    obtain ⟨ds, e2⟩ := x
    rw [hf] at q1
    obtain ⟨G2, r2, l2, q2⟩ := r1.freezes p1 hf
    have q1 : Post c G1 σ W (PV c σ) Q (if small ds.length = true then .val (.new (.lst ds)) e2 else .stuck) := q1
    by_cases hs : small ds.length = true
    · rw [if_pos hs] at q1
      have hlen : vs.length ≤ sizeLine := by
        rw [q2.length]
        exact of_decide_eq_true hs
      refine ⟨hlen, fun p hp => ?_⟩
      exact q1 _ _ _ (r2.newT hp) l2 (r2.newlst q2 hp)
    · rw [if_neg hs] at q1
      exact q1.elim
def eDic : Env → Out EV := fun env => .val (.new (.dic [])) env
theorem sem_dic : SemE K mg W tDNewK eDic := by
  intro c G env σ H hK hm r0 Q hQ p hp
  exact hQ _ _ _ (r0.newT hp) (Gle.refl G) (r0.newdic .nil hp)

/-! ### a call of a built-in, by the contents of its arguments -/
def CallSem (K : PySem.W.Frag) (r : List V → Hp → VK → Prop) (g : List D → Option EV) : Prop := ∀ c G env σ H xs ds ev, c.K = K → Rel c G env σ H → Paired (S c.K G H) xs ds → g ds = some ev →
  ∀ Q : VK, (∀ v G' H', Rel c G' env σ H' → Gle G G' → RV c G' env σ H' v ev → Q v H') → r xs H Q
theorem Rel.reads {c : Ctx} {G H : Hp} {env : Env} {σ : L2.St} (r : Rel c G env σ H) : ∀ {es : List EV} {vs : List V} {ds : List D}, RDs c G σ vs es → conts env es = some ds → Paired (S c.K G H) vs ds
  | [], [], _, _, e => by
    cases e
    exact .nil
  | [], _ :: _, _, h, _ => h.elim
  | _ :: _, [], _, h, _ => h.elim
  | ev :: es, v :: vs, ds, ⟨h1, h2⟩, e => by
    obtain ⟨d, hd, e⟩ := Option.bind_eq_some_iff.mp e
    obtain ⟨ds', hd', e⟩ := Option.bind_eq_some_iff.mp e
    cases e
    exact .cons (r.read (RD.rv h1) hd) (Rel.reads r h2 hd')
def eCB (g : List D → Option EV) (fa : Env → Out (List EV)) : Env → Out EV := fun env => (fa env).bind fun as e1 => Out.of ((conts e1 as).bind g) e1
theorem sem_cB {r : List V → Hp → VK → Prop} {g : List D → Option EV} {ta : TA} {fa : Env → Out (List EV)} (hr : CallSem K r g) (ha : SemA K mg W ta fa) : SemE K mg W (tCB r ta) (eCB g fa) := by
  intro c G env σ H hK hm r0 Q hQ
  refine ha c G env σ H hK hm r0 _ (post_bind hQ fun as e1 vs G1 H1 r1 l1 p1 q1 => ?_)
  obtain ⟨ev, he, q⟩ := post_of q1
  obtain ⟨ds, h1, he⟩ := Option.bind_eq_some_iff.mp he
  exact hr c G1 e1 σ H1 vs ds ev hK r1 (r1.reads p1 h1) he Q q

/-! ### tests, and, or, not, conditional expressions -/
def tTr (K : PySem.W.Frag) (ta : TE) : TT := fun σ H Q => ta σ H fun x H' => ∃ k, TruV K x H' k ∧ Q k H'
def truD : D → Option Bool
  | .non => some false
  | .bl b => some b
  | .int i => some (i != 0)
  | .str x => if small x.length then some ((x.length : Int) != 0) else none
  | .lst xs | .tup xs | .frl xs => some (!xs.isEmpty)
  | .dic _ => none
  | .prs _ => none
  | .any _ => none
theorem RA.isEmpty {G : Hp} {vs : List V} {ds : List D} (h : RA K G vs ds) : vs.isEmpty = ds.isEmpty := by
  cases h <;> rfl
theorem truD_ok {G H : Hp} {v : V} {d : D} {b : Bool} (s : Sub G H) (h : S K G H v d) (e : truD d = some b) : TruV K v H b := by
  cases d with
  | non =>
    cases e
    rw [h.n]
    rfl
  | bl b' =>
    cases e
    rw [h.b]
    rfl
  | int i =>
    cases e
    rw [h.i]
    rfl
  | str x =>
    rw [h.s]
    have e : (if small x.length = true then some ((x.length : Int) != 0) else none) = some b := e
    split at e
    · rename_i hs
      cases e
      exact ⟨of_decide_eq_true hs, rfl⟩
    · cases e
  | lst ds =>
    cases e
    obtain ⟨a, xs, rfl, h1, h2⟩ := h.l s
    exact .inl ⟨xs, SqL.of h1, by rw [h2.isEmpty]⟩
  | frl ds =>
    cases e
    obtain ⟨a, xs, rfl, h1, h2⟩ := h.f s
    exact .inl ⟨xs, h1, by rw [h2.isEmpty]⟩
  | tup ds =>
    cases e
    obtain ⟨a, xs, rfl, _, h1, h2⟩ := h.t s
    exact .inr (.inl ⟨xs, h1, by rw [h2.isEmpty]⟩)
  | dic _ => cases e
  | prs _ => cases e
  | any _ => cases e
def bTr (fa : Env → Out EV) : Env → Out Bool := fun env => (fa env).bind fun a e1 => Out.of ((cont e1 a).bind truD) e1
theorem sem_tr {ta : TE} {fa : Env → Out EV} (ha : SemD K mg W ta fa) : SemT K mg W (tTr K ta) (bTr fa) := by
  intro c G env σ H hK hm r0 Q hQ
  refine ha c G env σ H hK hm r0 _ (post_bind hQ fun a e1 v G1 H1 r1 l1 p1 q1 => ?_)
  obtain ⟨b, he, q⟩ := post_of q1
  obtain ⟨d, h1, he⟩ := Option.bind_eq_some_iff.mp he
  have hs := r1.read (RD.rv p1) h1
  rw [hK] at hs
  exact ⟨b, truD_ok r1.sub hs he, q b G1 H1 r1 (Gle.refl _) rfl⟩
def blD : D → Option Bool
  | .bl b => some b
  | _ => none
theorem blD_eq {d : D} {b : Bool} (e : blD d = some b) : d = .bl b := by
  cases d <;> cases e
  rfl
def bBl (fa : Env → Out EV) : Env → Out Bool := fun env => (fa env).bind fun a e1 => Out.of ((cont e1 a).bind blD) e1
theorem sem_B {ta : TE} {fa : Env → Out EV} (ha : SemE K mg W ta fa) : SemT K mg W (tB ta) (bBl fa) := by
  intro c G env σ H hK hm r0 Q hQ
  refine ha c G env σ H hK hm r0 _ (post_bind hQ fun a e1 v G1 H1 r1 l1 p1 q1 => ?_)
  obtain ⟨b, he, q⟩ := post_of q1
  obtain ⟨d, h1, he⟩ := Option.bind_eq_some_iff.mp he
  rw [blD_eq he] at h1
  exact ⟨b, (r1.read p1 h1).b, q b G1 H1 r1 (Gle.refl _) rfl⟩
theorem sem_test {ta : TE} {fa : Env → Out EV} (ha : SemE K mg W ta fa) : SemT K mg W (tTest ta) (bBl fa) := by
  intro c G env σ H hK hm r0 Q hQ
  refine ha c G env σ H hK hm r0 _ (post_bind hQ fun a e1 v G1 H1 r1 l1 p1 q1 => ?_)
  obtain ⟨b, he, q⟩ := post_of q1
  obtain ⟨d, h1, he⟩ := Option.bind_eq_some_iff.mp he
  rw [blD_eq he] at h1
  exact ⟨b, (r1.read p1 h1).b, q b G1 H1 r1 (Gle.refl _) rfl⟩
def bAnd (fa fb : Env → Out Bool) : Env → Out Bool := fun env => (fa env).bind fun a e1 => if a then fb e1 else .val false e1
def bOr (fa fb : Env → Out Bool) : Env → Out Bool := fun env => (fa env).bind fun a e1 => if a then .val true e1 else fb e1
def bNot (fa : Env → Out Bool) : Env → Out Bool := fun env => (fa env).bind fun a e1 => .val (!a) e1
theorem sem_bAnd {ta tb : TT} {fa fb : Env → Out Bool} (ha : SemT K mg W ta fa) (hb : SemT K mg W tb fb) : SemT K mg W (tAnd ta tb) (bAnd fa fb) := by
  intro c G env σ H hK hm r0 Q hQ
  refine ha c G env σ H hK hm r0 _ (post_bind hQ fun a e1 v G1 H1 r1 l1 p1 q1 => ?_)
  obtain rfl : a = v := p1
  cases a with
  | true => exact hb c G1 e1 σ H1 hK hm r1 Q q1
  | false => exact q1 false G1 H1 r1 (Gle.refl _) rfl
theorem sem_bOr {ta tb : TT} {fa fb : Env → Out Bool} (ha : SemT K mg W ta fa) (hb : SemT K mg W tb fb) : SemT K mg W (tOr ta tb) (bOr fa fb) := by
  intro c G env σ H hK hm r0 Q hQ
  refine ha c G env σ H hK hm r0 _ (post_bind hQ fun a e1 v G1 H1 r1 l1 p1 q1 => ?_)
  obtain rfl : a = v := p1
  cases a with
  | false => exact hb c G1 e1 σ H1 hK hm r1 Q q1
  | true => exact q1 true G1 H1 r1 (Gle.refl _) rfl
theorem sem_bNot {ta : TT} {fa : Env → Out Bool} (ha : SemT K mg W ta fa) : SemT K mg W (tNot ta) (bNot fa) := by
  intro c G env σ H hK hm r0 Q hQ
  refine ha c G env σ H hK hm r0 _ (post_bind hQ fun a e1 v G1 H1 r1 l1 p1 q1 => ?_)
  obtain rfl : a = v := p1
  exact q1 (!a) G1 H1 r1 (Gle.refl _) rfl
def eIf (ft : Env → Out Bool) (fa fb : Env → Out EV) : Env → Out EV := fun env => (ft env).bind fun b e1 => if b then fa e1 else fb e1
theorem sem_if {t : TT} {ta tb : TE} {ft : Env → Out Bool} {fa fb : Env → Out EV} (ht : SemT K mg W t ft) (ha : SemE K mg W ta fa) (hb : SemE K mg W tb fb) : SemE K mg W (tIf t ta tb) (eIf ft fa fb) := by
  intro c G env σ H hK hm r0 Q hQ
  refine ht c G env σ H hK hm r0 _ (post_bind hQ fun a e1 v G1 H1 r1 l1 p1 q1 => ?_)
  obtain rfl : a = v := p1
  cases a with
  | true => exact ha c G1 e1 σ H1 hK hm r1 Q q1
  | false => exact hb c G1 e1 σ H1 hK hm r1 Q q1
def eAnd (fa fb : Env → Out EV) : Env → Out EV := fun env => (fa env).bind fun a e1 => (Out.of ((cont e1 a).bind blD) e1).bind fun b e2 => if b then fb e2 else .val (.dat (.bl false)) e2
def eOr (fa fb : Env → Out EV) : Env → Out EV := fun env => (fa env).bind fun a e1 => (Out.of ((cont e1 a).bind blD) e1).bind fun b e2 => if b then .val (.dat (.bl true)) e2 else fb e2
def eNot (fa : Env → Out EV) : Env → Out EV := fun env => (fa env).bind fun a e1 => (Out.of ((cont e1 a).bind blD) e1).bind fun b e2 => .val (.dat (.bl (!b))) e2
theorem bl_read {c : Ctx} {G H : Hp} {env : Env} {σ : L2.St} {a : EV} {v : V} {α β : Type} {P : Hp → Env → Hp → α → β → Prop} {Q : β → Hp → Prop} {k : Bool → Env → Out α} (r : Rel c G env σ H) (p : RV c G env σ H v a) (h : Post c G σ W P Q ((Out.of ((cont env a).bind blD) env).bind k)) :
    ∃ b, v = .bl b ∧ Post c G σ W P Q (k b env) := by
  cases hc : (cont env a).bind blD with
  | none =>
    rw [hc] at h
    exact h.elim
  | some b =>
    rw [hc] at h
    obtain ⟨d, h1, he⟩ := Option.bind_eq_some_iff.mp hc
    rw [blD_eq he] at h1
    exact ⟨b, (r.read p h1).b, h⟩
theorem sem_and {ta tb : TE} {fa fb : Env → Out EV} (ha : SemE K mg W ta fa) (hb : SemE K mg W tb fb) : SemE K mg W (tAndV ta tb) (eAnd fa fb) := by
  intro c G env σ H hK hm r0 Q hQ
  refine ha c G env σ H hK hm r0 _ (post_bind hQ fun a e1 v G1 H1 r1 l1 p1 q1 => ?_)
  obtain ⟨b, rfl, q⟩ := bl_read r1 p1 q1
  refine ⟨b, rfl, ?_⟩
  cases b with
  | true => exact hb c G1 e1 σ H1 hK hm r1 Q q
  | false => exact q _ G1 H1 r1 (Gle.refl _) (.bl false)
theorem sem_or {ta tb : TE} {fa fb : Env → Out EV} (ha : SemE K mg W ta fa) (hb : SemE K mg W tb fb) : SemE K mg W (tOrV ta tb) (eOr fa fb) := by
  intro c G env σ H hK hm r0 Q hQ
  refine ha c G env σ H hK hm r0 _ (post_bind hQ fun a e1 v G1 H1 r1 l1 p1 q1 => ?_)
  obtain ⟨b, rfl, q⟩ := bl_read r1 p1 q1
  refine ⟨b, rfl, ?_⟩
  cases b with
  | false => exact hb c G1 e1 σ H1 hK hm r1 Q q
  | true => exact q _ G1 H1 r1 (Gle.refl _) (.bl true)
theorem sem_not {ta : TE} {fa : Env → Out EV} (ha : SemE K mg W ta fa) : SemE K mg W (tNotV ta) (eNot fa) := by
  intro c G env σ H hK hm r0 Q hQ
  refine ha c G env σ H hK hm r0 _ (post_bind hQ fun a e1 v G1 H1 r1 l1 p1 q1 => ?_)
  obtain ⟨b, rfl, q⟩ := bl_read r1 p1 q1
  exact ⟨b, rfl, q _ G1 H1 r1 (Gle.refl _) (.bl (!b))⟩
end
end DL

namespace DL
open PySem L2 PySem.Spec PyProof.Rows

/-! ### statements -/
inductive OutS where
  | next (env : Env) | ret (ev : EV) (env : Env) | brk (env : Env) | cnt (env : Env) | exc (x : Str) (fs : Option (List (Str × D))) (env : Env) | stuck
  deriving Inhabited
def PostS (c : Ctx) (G : Hp) (W : WX) (D : Ends) : OutS → Prop
  | .next env' => ∀ σ' G' H', Rel c G' env' σ' H' → Gle G G' → D.nx σ' H'
  | .brk env' => ∀ σ' G' H', Rel c G' env' σ' H' → Gle G G' → D.bk σ' H'
  | .cnt env' => ∀ σ' G' H', Rel c G' env' σ' H' → Gle G G' → D.ct σ' H'
  | .ret ev env' => ∀ v σ' G' H', Rel c G' env' σ' H' → Gle G G' → RV c G' env' σ' H' v ev → D.rt v H'
  | .exc x fs env' => ∀ cls d σ' G' H', Rel c G' env' σ' H' → Gle G G' → XOk c G' x fs cls d → W cls d σ' H'
  | .stuck => False
def SemS (K : PySem.W.Frag) (mg : MX) (W : WX) (t : TS) (F : Env → OutS) : Prop := ∀ c G env σ H (D : Ends), c.K = K → (c.mg, c.xa) = mg → Rel c G env σ H → PostS c G W D (F env) → t D σ H
def OutS.bind (o : OutS) (k : Env → OutS) : OutS := match o with
  | .next e => k e
  | o => o
@[simp] theorem OutS.bind_next (e : Env) (k : Env → OutS) : (OutS.next e).bind k = k e := rfl
@[simp] theorem OutS.bind_ret (v : EV) (e : Env) (k : Env → OutS) : (OutS.ret v e).bind k = .ret v e := rfl
@[simp] theorem OutS.bind_brk (e : Env) (k : Env → OutS) : (OutS.brk e).bind k = .brk e := rfl
@[simp] theorem OutS.bind_cnt (e : Env) (k : Env → OutS) : (OutS.cnt e).bind k = .cnt e := rfl
@[simp] theorem OutS.bind_exc (x : Str) (f : Option (List (Str × D))) (e : Env) (k : Env → OutS) : (OutS.exc x f e).bind k = .exc x f e := rfl
@[simp] theorem OutS.bind_stuck (k : Env → OutS) : OutS.stuck.bind k = .stuck := rfl
/-- an expression's outcome, then a statement's end -/
def Out.toS {α : Type} (o : Out α) (k : α → Env → OutS) : OutS := match o with
  | .val a e => k a e
  | .exc x f e => .exc x f e
  | .stuck => .stuck
@[simp] theorem Out.toS_val {α : Type} (a : α) (e : Env) (k : α → Env → OutS) : (Out.val a e).toS k = k a e := rfl
@[simp] theorem Out.toS_stuck {α : Type} (k : α → Env → OutS) : (Out.stuck : Out α).toS k = .stuck := rfl
@[simp] theorem Out.toS_exc {α : Type} (x : Str) (f : Option (List (Str × D))) (e : Env) (k : α → Env → OutS) : (Out.exc x f e : Out α).toS k = .exc x f e := rfl
theorem PostS.imp {c : Ctx} {G G' : Hp} {W : WX} {D D' : Ends} {o : OutS} (h : PostS c G W D o) (l : Gle G G') (h1 : ∀ σ H, D.nx σ H → D'.nx σ H) (h2 : ∀ v H, D.rt v H → D'.rt v H) (h3 : ∀ σ H, D.bk σ H → D'.bk σ H) (h4 : ∀ σ H, D.ct σ H → D'.ct σ H) : PostS c G' W D' o := by
  cases o with
  | next e => exact fun σ' G2 H' r l2 => h1 _ _ (h σ' G2 H' r (l.trans l2))
  | brk e => exact fun σ' G2 H' r l2 => h3 _ _ (h σ' G2 H' r (l.trans l2))
  | cnt e => exact fun σ' G2 H' r l2 => h4 _ _ (h σ' G2 H' r (l.trans l2))
  | ret v e => exact fun v σ' G2 H' r l2 p => h2 _ _ (h v σ' G2 H' r (l.trans l2) p)
  | exc x fs e => exact fun cls d σ' G2 H' r l2 p => h cls d σ' G2 H' r (l.trans l2) p
  | stuck => exact h
section
variable {K : PySem.W.Frag} {mg : MX} {W : WX}
/-- the end of an expression's part within a statement: exceptions leave at the slots as they are -/
theorem post_toS {c : Ctx} {G : Hp} {σ : L2.St} {D : Ends} {α β : Type} {P : Hp → Env → Hp → α → β → Prop} {Q : β → Hp → Prop} {o : Out α} {k : α → Env → OutS}
    (h : PostS c G W D (o.toS k)) (hk : ∀ a env' b G' H', Rel c G' env' σ H' → Gle G G' → P G' env' H' a b → PostS c G' W D (k a env') → Q b H') : Post c G σ W P Q o := by
  cases o with
  | val a e =>
    intro b G' H' r l p
    exact hk a e b G' H' r l p (h.imp l (fun _ _ z => z) (fun _ _ z => z) (fun _ _ z => z) fun _ _ z => z)
  | exc x fs e => exact fun cls d G' H' r l p => h cls d σ G' H' r l p
  | stuck => exact h
def sNext : Env → OutS := fun env => .next env
def sSeq (F G : Env → OutS) : Env → OutS := fun env => (F env).bind G
theorem sem_next : SemS K mg W tNext sNext := fun c G env σ H D hK hm r h => h σ G H r (Gle.refl G)
theorem sem_brk : SemS K mg W tBreak (fun env => .brk env) := fun c G env σ H D hK hm r h => h σ G H r (Gle.refl G)
theorem sem_cnt : SemS K mg W tCont (fun env => .cnt env) := fun c G env σ H D hK hm r h => h σ G H r (Gle.refl G)
theorem sem_seq {t u : TS} {F F' : Env → OutS} (h1 : SemS K mg W t F) (h2 : SemS K mg W u F') : SemS K mg W (tSeq t u) (sSeq F F') := by
  intro c G env σ H D hK hm r h
  refine h1 c G env σ H _ hK hm r ?_
  have h : PostS c G W D ((F env).bind F') := h
  cases he : F env with
  | next e =>
    rw [he] at h
    exact fun σ' G' H' r' l => h2 c G' e σ' H' D hK hm r' (PostS.imp h l (fun _ _ z => z) (fun _ _ z => z) (fun _ _ z => z) fun _ _ z => z)
  | brk e =>
    rw [he] at h
    exact h
  | cnt e =>
    rw [he] at h
    exact h
  | ret v e =>
    rw [he] at h
    exact h
  | exc x fs e =>
    rw [he] at h
    exact h
  | stuck =>
    rw [he] at h
    exact h
def sIf (ft : Env → Out Bool) (F F' : Env → OutS) : Env → OutS := fun env => (ft env).toS fun b e => if b then F e else F' e
theorem sem_ifS {t : TT} {u w : TS} {ft : Env → Out Bool} {F F' : Env → OutS} (ht : SemT K mg W t ft) (h1 : SemS K mg W u F) (h2 : SemS K mg W w F') : SemS K mg W (tIfS t u w) (sIf ft F F') := by
  intro c G env σ H D hK hm r h
  refine ht c G env σ H hK hm r _ (post_toS h fun a e1 v G1 H1 r1 l1 p1 q1 => ?_)
  obtain rfl : a = v := p1
  cases a with
  | true => exact h1 c G1 e1 σ H1 D hK hm r1 q1
  | false => exact h2 c G1 e1 σ H1 D hK hm r1 q1
def OutS.of (o : Option Env) : OutS := match o with
  | some e => .next e
  | none => .stuck
@[simp] theorem OutS.of_some (e : Env) : OutS.of (some e) = .next e := rfl
@[simp] theorem OutS.of_none : OutS.of none = .stuck := rfl
/-- targets: what a store of a value does -/
def SemG (K : PySem.W.Frag) (mg : MX) (W : WX) (g : TG) (f : EV → Env → OutS) : Prop := ∀ c G env σ H v ev (Q : L2.St → Hp → Prop), c.K = K → (c.mg, c.xa) = mg → Rel c G env σ H → RV c G env σ H v ev →
  PostS c G W { nx := Q, rt := fun _ _ => False, bk := fun _ _ => False, ct := fun _ _ => False } (f ev env) → g v σ H Q
def gN (i : Nat) : EV → Env → OutS := fun ev env => OutS.of (assign env i ev)
theorem sem_gName {i : Nat} : SemG K mg W (gName i) (gN i) := by
  intro c G env σ H v ev Q hK hm r p h
  have h : PostS c G W _ (OutS.of (assign env i ev)) := h
  cases he : assign env i ev with
  | none =>
    rw [he] at h
    exact h.elim
  | some e =>
    rw [he] at h
    obtain ⟨G', r', l⟩ := r.assign p he
    exact h _ G' H r' l
def sAsg (fe : Env → Out EV) (g : EV → Env → OutS) : Env → OutS := fun env => (fe env).toS g
theorem sem_asg {te : TE} {g : TG} {fe : Env → Out EV} {f : EV → Env → OutS} (he : SemE K mg W te fe) (hg : SemG K mg W g f) (hx : ∀ ev env, (∃ e, f ev env = .next e) ∨ f ev env = .stuck) : SemS K mg W (tAsg te g) (sAsg fe f) := by
  intro c G env σ H D hK hm r h
  refine he c G env σ H hK hm r _ (post_toS h fun ev e1 v G1 H1 r1 l1 p1 q1 => ?_)
  refine hg c G1 e1 σ H1 v ev D.nx hK hm r1 p1 ?_
  rcases hx ev e1 with ⟨e, z⟩ | z
  · rw [z] at q1 ⊢
    exact q1
  · rw [z] at q1 ⊢
    exact q1
theorem gN_ok (i : Nat) (ev : EV) (env : Env) : (∃ e, gN i ev env = .next e) ∨ gN i ev env = .stuck := by
  unfold gN
  cases assign env i ev with
  | none => exact .inr rfl
  | some e => exact .inl ⟨e, rfl⟩
theorem sem_set {te : TE} {i : Nat} {fe : Env → Out EV} (he : SemE K mg W te fe) : SemS K mg W (tAsg te (gName i)) (sAsg fe (gN i)) := sem_asg he sem_gName (gN_ok i)
/-- targets a, b, .. of a tuple -/
def SemGs (K : PySem.W.Frag) (mg : MX) (W : WX) (g : TGs) (f : List D → Env → OutS) : Prop := ∀ c G env σ H vs ds (Q : L2.St → Hp → Prop), c.K = K → (c.mg, c.xa) = mg → Rel c G env σ H → RA c.K G vs ds →
  PostS c G W { nx := Q, rt := fun _ _ => False, bk := fun _ _ => False, ct := fun _ _ => False } (f ds env) → g vs σ H Q
def gsNil : List D → Env → OutS := fun ds env => match ds with
  | [] => .next env
  | _ => .stuck
def gsCons (f : EV → Env → OutS) (fs : List D → Env → OutS) : List D → Env → OutS := fun ds env => match ds with
  | [] => .stuck
  | d :: r => (f (.dat d) env).bind (fs r)
theorem sem_gsNil : SemGs K mg W gNil gsNil := by
  intro c G env σ H vs ds Q hK hm r p h
  cases p with
  | nil => exact ⟨rfl, h σ G H r (Gle.refl G)⟩
  | cons a b => exact h.elim
theorem sem_gsCons {t : TG} {u : TGs} {f : EV → Env → OutS} {fs : List D → Env → OutS} (h1 : SemG K mg W t f) (h2 : SemGs K mg W u fs) : SemGs K mg W (gCons t u) (gsCons f fs) := by
  intro c G env σ H vs ds Q hK hm r p h
  cases p with
  | nil => exact h.elim
  | @cons v vs d ds a b =>
    refine ⟨v, vs, rfl, ?_⟩
    refine h1 c G env σ H v (.dat d) _ hK hm r a ?_
    have h : PostS c G W _ ((f (.dat d) env).bind (fs ds)) := h
    cases he : f (.dat d) env with
    | next e =>
      rw [he] at h
      intro σ' G' H' r' l
      exact h2 c G' e σ' H' vs ds Q hK hm r' (b.mono l.sub) (PostS.imp h l (fun _ _ z => z) (fun _ _ z => z) (fun _ _ z => z) fun _ _ z => z)
    | brk e =>
      rw [he] at h
      exact h
    | cnt e =>
      rw [he] at h
      exact h
    | ret v e =>
      rw [he] at h
      exact h
    | exc x fs e =>
      rw [he] at h
      exact h
    | stuck =>
      rw [he] at h
      exact h
def gT (n : Nat) (fs : List D → Env → OutS) : EV → Env → OutS := fun ev env => match cont env ev with
  | some (.tup ds) => if ds.length = n then fs ds env else .stuck
  | some (.prs ds) => if ds.length = n then fs ds env else .stuck
  | _ => .stuck
theorem sem_gTup {n : Nat} {t : TGs} {fs : List D → Env → OutS} (h : SemGs K mg W t fs) : SemG K mg W (gTup K n t) (gT n fs) := by
  intro c G env σ H v ev Q hK hm r p hq
  unfold gT at hq
  split at hq
  · rename_i ds he
    split at hq
    · rename_i hl
      obtain ⟨a, xs, rfl, _, h1, h2⟩ := (r.read p he).t r.sub
      rw [hK] at h1
      exact ⟨a, xs, rfl, h1, h2.length.trans hl, h c G env σ H xs ds Q hK hm r h2 hq⟩
    · exact hq.elim
  · rename_i ds he
    split at hq
    · rename_i hl
      obtain ⟨a, xs, rfl, _, h1, h2⟩ := (r.read p he).p r.sub
      rw [hK] at h1
      exact ⟨a, xs, rfl, h1, h2.length.trans hl, h c G env σ H xs ds Q hK hm r h2 hq⟩
    · exact hq.elim
  · exact hq.elim
theorem sem_drop {te : TE} {fe : Env → Out EV} (he : SemE K mg W te fe) : SemS K mg W (tDrop te) (fun env => (fe env).toS fun _ e => .next e) := by
  intro c G env σ H D hK hm r h
  refine he c G env σ H hK hm r _ (post_toS h fun ev e1 v G1 H1 r1 l1 p1 q1 => ?_)
  exact q1 σ G1 H1 r1 (Gle.refl _)
/-- a slot's own object handed out -/
def handOut (env : Env) : EV → OutS
  | .slot i => match env[i]? with
    | some (.own d) => .ret (.new d) (env.set i .no)
    | some (.par d) => .ret (.dat d) (env.set i (.fpar d))
    | some (.imm d) => .ret (.dat d) env
    | some (.fpar d) => .ret (.dat d) env
    | _ => .stuck
  | ev => .ret ev env
theorem Rel.drop {c : Ctx} {G H : Hp} {env : Env} {σ : L2.St} (r : Rel c G env σ H) {i : Nat} {d : D} (he : env[i]? = some (.own d)) : Rel c G (env.set i .no) σ H where
  lks := r.lks
  sub := r.sub
  g0 := r.g0
  gfix := r.gfix
  keep := r.keep
  pah := r.pah
  pinj := r.pinj
  len := by rw [List.length_set]; exact r.len
  slot := fun j s hs => by
    rcases getElem?_set_cases hs with ⟨rfl, rfl⟩ | ⟨_, hs'⟩
    · trivial
    · exact r.slot j s hs'
  frs := fun a u e => by
    obtain ⟨h1, h2, h3⟩ := r.frs a u e
    refine ⟨h1, h2, fun j d' hj => ?_⟩
    rcases hj with hj | hj
    · rcases getElem?_set_cases hj with ⟨_, z⟩ | ⟨_, hj'⟩
      · cases z
      · exact h3 j d' (.inl hj')
    · rcases getElem?_set_cases hj with ⟨_, z⟩ | ⟨_, hj'⟩
      · cases z
      · exact h3 j d' (.inr hj')
  dist := fun j k q d1 d2 h1 h2 h3 h4 => by
    rcases getElem?_set_cases h1 with ⟨_, z⟩ | ⟨_, h1'⟩
    · cases z
    · rcases getElem?_set_cases h2 with ⟨_, z⟩ | ⟨_, h2'⟩
      · cases z
      · exact r.dist j k q _ _ h1' h2' h3 h4
  pars := fun j q hq => by
    obtain ⟨d', h⟩ := r.pars j q hq
    have ne : i ≠ j := fun z => by
      subst z
      rw [he] at h
      rcases h with h | h <;> cases h
    exact ⟨d', by rw [List.getElem?_set_ne ne]; exact h⟩
def sRet (fe : Env → Out EV) : Env → OutS := fun env => (fe env).toS fun ev e => handOut e ev
theorem sem_ret {te : TE} {fe : Env → Out EV} (he : SemE K mg W te fe) : SemS K mg W (tRet te) (sRet fe) := by
  intro c G env σ H D hK hm r h
  refine he c G env σ H hK hm r _ (post_toS h fun ev e1 v G1 H1 r1 l1 p1 q1 => ?_)
  have p1 : RV c G1 e1 σ H1 v ev := p1
  cases ev with
  | dat d => exact q1 v σ G1 H1 r1 (Gle.refl _) p1
  | new d => exact q1 v σ G1 H1 r1 (Gle.refl _) p1
  | slot i =>
    have hw : σ[i]? = some (some v) := p1
    unfold handOut at q1
    simp only at q1
    split at q1
    · rename_i d hs
      obtain ⟨p, e2, h0, hg, ro⟩ := r1.slot i _ hs
      rw [hw] at e2
      cases e2
      refine q1 _ σ G1 H1 (r1.drop hs) (Gle.refl _) ⟨p, rfl, h0, hg, ro, fun j e hj hj2 => ?_, r1.frown (.inl hs) hw⟩
      rcases getElem?_set_cases hj with ⟨_, z⟩ | ⟨hne, hj'⟩
      · cases z
      · exact hne (r1.dist i j p _ _ hs hj' hw hj2)
    · rename_i d hs
      obtain ⟨p, G2, e2, r2, l2, q2⟩ := r1.freezeP hs
      rw [hw] at e2
      cases e2
      exact q1 _ σ G2 H1 r2 l2 q2
    · rename_i d hs
      obtain ⟨w, e2, q2⟩ := r1.slot i _ hs
      rw [hw] at e2
      cases e2
      exact q1 _ σ G1 H1 r1 (Gle.refl _) q2
    · rename_i d hs
      obtain ⟨p, e2, _, q2⟩ := r1.slot i _ hs
      rw [hw] at e2
      cases e2
      exact q1 _ σ G1 H1 r1 (Gle.refl _) q2
    · exact q1.elim
theorem sem_retN : SemS K mg W tRetN (fun env => .ret (.dat .non) env) := fun c G env σ H D hK hm r h => h .non σ G H r (Gle.refl G) .non
/-- a, b = e1, e2 -/
def sPar (i j : Nat) (fa : Env → Out (List EV)) : Env → OutS := fun env => (fa env).toS fun as e1 => match freezes e1 as with
  | some ([x, y], e2) => OutS.of ((put e2 i (.imm x)).bind fun e3 => put e3 j (.imm y))
  | _ => .stuck
theorem Rel.put {c : Ctx} {G H : Hp} {env env' : Env} {σ : L2.St} (r : Rel c G env σ H) {i : Nat} {v : V} {d : D} (h : R c.K G v d) (e : put env i (.imm d) = some env') : Rel c G env' (σ.set i (some v)) H := by
  obtain ⟨G', r', l⟩ := r.assign (ev := .dat d) h e
  unfold DL.put at e
  split at e
  · rename_i hs
    cases e
    exact r.store hs ⟨v, rfl, h⟩ (fun _ _ z => by cases z) (fun _ => ⟨(fun z => by cases z), (fun z => by cases z)⟩)
  · cases e
theorem sem_par {i j : Nat} {ta : TA} {fa : Env → Out (List EV)} (ha : SemA K mg W ta fa) : SemS K mg W (tPar i j ta) (sPar i j fa) := by
  intro c G env σ H D hK hm r h
  refine ha c G env σ H hK hm r _ (post_toS h fun as e1 vs G1 H1 r1 l1 p1 q1 => ?_)
  split at q1
  · rename_i x y e2 hf
    obtain ⟨G2, r2, l2, q2⟩ := r1.freezes p1 hf
    cases q2 with
    | @cons v vs _ _ a b =>
      cases b with
      | @cons w _ _ _ b1 b2 =>
        cases b2
        refine ⟨v, w, rfl, ?_⟩
        cases h1 : DL.put e2 i (.imm x) with
        | none =>
          rw [h1] at q1
          exact q1.elim
        | some e3 =>
          rw [h1] at q1
          have q1 : PostS c G1 W D (OutS.of (DL.put e3 j (.imm y))) := q1
          cases h2 : DL.put e3 j (.imm y) with
          | none =>
            rw [h2] at q1
            exact q1.elim
          | some e4 =>
            rw [h2] at q1
            exact q1 _ G2 H1 ((r2.put a h1).put b1 h2) l2
  · exact q1.elim

/-! ### while -/
def loopW (ft : Env → Out Bool) (F : Env → OutS) : Nat → Env → OutS
  | 0, _ => .stuck
  | n + 1, env => (ft env).toS fun b e => if b then (match F e with
    | .next e' => loopW ft F n e'
    | .cnt e' => loopW ft F n e'
    | .brk e' => .next e'
    | o => o) else .next e
def sWhile (fuel : Nat) (ft : Env → Out Bool) (F : Env → OutS) : Env → OutS := loopW ft F fuel
theorem sem_while {t : TT} {u : TS} {ft : Env → Out Bool} {F : Env → OutS} (fuel : Nat) (ht : SemT K mg W t ft) (hu : SemS K mg W u F) : SemS K mg W (tWhile t u) (sWhile fuel ft F) := by
  intro c G env σ H D hK hm r h
  refine ⟨fun m σ' H' => ∃ G' env', Rel c G' env' σ' H' ∧ Gle G G' ∧ PostS c G' W D (loopW ft F m env'), ⟨fuel, G, env, r, Gle.refl G, h⟩, ?_⟩
  rintro m σ' H' ⟨G1, e1, r1, l1, q1⟩
  cases m with
  | zero => exact q1.elim
  | succ m =>
    refine ht c G1 e1 σ' H' hK hm r1 _ (post_toS (k := fun b e => if b then (match F e with
      | .next e' => loopW ft F m e'
      | .cnt e' => loopW ft F m e'
      | .brk e' => .next e'
      | o => o) else .next e) q1 fun a e2 v G2 H2 r2 l2 p2 q2 => ?_)
    obtain rfl : a = v := p2
    cases a with
    | false => exact q2 σ' G2 H2 r2 (Gle.refl _)
    | true =>
      refine ⟨fun σ3 H3 => ∃ G3 env3, Rel c G3 env3 σ3 H3 ∧ Gle G G3 ∧ PostS c G3 W D (loopW ft F m env3), fun σ3 H3 w => ⟨m, Nat.lt_succ_self m, w⟩, ?_⟩
      refine hu c G2 e2 σ' H2 _ hK hm r2 ?_
      have q2 : PostS c G2 W D (match F e2 with
        | .next e' => loopW ft F m e'
        | .cnt e' => loopW ft F m e'
        | .brk e' => .next e'
        | o => o) := q2
      cases he : F e2 with
      | next e =>
        rw [he] at q2
        exact fun σ3 G3 H3 r3 l3 => ⟨G3, e, r3, (l1.trans l2).trans l3, q2.imp l3 (fun _ _ z => z) (fun _ _ z => z) (fun _ _ z => z) fun _ _ z => z⟩
      | cnt e =>
        rw [he] at q2
        exact fun σ3 G3 H3 r3 l3 => ⟨G3, e, r3, (l1.trans l2).trans l3, q2.imp l3 (fun _ _ z => z) (fun _ _ z => z) (fun _ _ z => z) fun _ _ z => z⟩
      | brk e =>
        rw [he] at q2
        exact q2
      | ret v e =>
        rw [he] at q2
        exact q2
      | exc x fs e =>
        rw [he] at q2
        exact q2
      | stuck =>
        rw [he] at q2
        exact q2
end
end DL

namespace DL
open PySem L2 PySem.Spec PyProof.Rows

/-! ### what a loop goes over -/
structure Src where
  n : Nat
  ok : Env → Bool
  it : Env → Nat → Option D
structure Turns (c : Ctx) (G0 : Hp) (J : It) (s : Src) : Prop where
  go : ∀ (i : Nat) (G : Hp) (env : Env) (σ : L2.St) (H : Hp) (d : D), Rel c G env σ H → Gle G0 G → i < s.n → s.it env i = some d → J.go i H ∧ ∀ x H', J.yld i H x H' → ∃ G', Rel c G' env σ H' ∧ Gle G G' ∧ R c.K G' x d
  stop : ∀ (G : Hp) (env : Env) (σ : L2.St) (H : Hp), Rel c G env σ H → Gle G0 G → s.ok env = true → J.stop s.n H
def PT (c : Ctx) : Hp → Env → Hp → Src → It → Prop := fun G _ _ s J => ∀ f l, Turns { c with fr := f, lk := l } G J s
/-- an item's store -/
def loopF (s : Src) (g : EV → Env → OutS) (F : Env → OutS) : Nat → Env → OutS
  | 0, env => if s.ok env then .next env else .stuck
  | r + 1, env => match s.it env (s.n - (r + 1)) with
    | none => .stuck
    | some d => match (g (.dat d) env).bind F with
      | .next e => loopF s g F r e
      | .cnt e => loopF s g F r e
      | .brk e => .next e
      | o => o
section
variable {K : PySem.W.Frag} {mg : MX} {W : WX}
def SemI (K : PySem.W.Frag) (mg : MX) (W : WX) (wi : TI) (f : Env → Out Src) : Prop := ∀ c G env σ H, c.K = K → (c.mg, c.xa) = mg → Rel c G env σ H → ∀ R : It → Hp → Prop, Post c G σ W (PT c) R (f env) → wi σ H R
def sFor (fs : Env → Out Src) (g : EV → Env → OutS) (F : Env → OutS) : Env → OutS := fun env => (fs env).toS fun s e => loopF s g F s.n e
theorem sem_for {wi : TI} {g : TG} {tb : TS} {fs : Env → Out Src} {f : EV → Env → OutS} {F : Env → OutS} (hi : SemI K mg W wi fs) (hg : SemG K mg W g f) (hx : ∀ ev env, (∃ e, f ev env = .next e) ∨ f ev env = .stuck) (hb : SemS K mg W tb F) :
    SemS K mg W (tFor wi g tb) (sFor fs f F) := by
  intro c G env σ H D hK hm r h
  refine hi c G env σ H hK hm r _ (post_toS h fun s e1 J G1 H1 r1 l1 p1 q1 => ?_)
  have T : Turns c G1 J s := p1 c.fr c.lk
  refine ⟨fun i m σ' H' => m = s.n - i ∧ i ≤ s.n ∧ ∃ G' env', Rel c G' env' σ' H' ∧ Gle G1 G' ∧ PostS c G' W D (loopF s f F m env'), ⟨s.n, by simp, Nat.zero_le _, G1, e1, r1, Gle.refl _, q1⟩, ?_⟩
  rintro i m σ' H' ⟨rfl, hi2, G2, e2, r2, l2, q2⟩
  cases hm2 : s.n - i with
  | zero =>
    have e0 : i = s.n := by omega
    subst e0
    rw [hm2] at q2
    have q2 : PostS c G2 W D (if s.ok e2 = true then .next e2 else .stuck) := q2
    by_cases hok : s.ok e2 = true
    · rw [if_pos hok] at q2
      exact .inl ⟨T.stop G2 e2 σ' H' r2 l2 hok, q2 σ' G2 H' r2 (Gle.refl _)⟩
    · rw [if_neg hok] at q2
      exact q2.elim
  | succ k =>
    have e0 : s.n - (k + 1) = i := by omega
    have hlt : i < s.n := by omega
    rw [hm2] at q2
    have q2 : PostS c G2 W D (match s.it e2 (s.n - (k + 1)) with
      | none => .stuck
      | some d => match (f (.dat d) e2).bind F with
        | .next e => loopF s f F k e
        | .cnt e => loopF s f F k e
        | .brk e => .next e
        | o => o) := q2
    rw [e0] at q2
    cases hd : s.it e2 i with
    | none =>
      rw [hd] at q2
      exact q2.elim
    | some d =>
      rw [hd] at q2
      obtain ⟨hgo, hy⟩ := T.go i G2 e2 σ' H' d r2 l2 hlt hd
      refine .inr ⟨hgo, fun σ3 H3 => ∃ G' env', Rel c G' env' σ3 H3 ∧ Gle G1 G' ∧ PostS c G' W D (loopF s f F k env'), fun σ3 H3 w => ⟨k, by omega, by omega, by omega, w⟩, fun x H3 y => ?_⟩
      obtain ⟨G3, r3, l3, p3⟩ := hy x H3 y
      refine hg c G3 e2 σ' H3 x (.dat d) _ hK hm r3 p3 ?_
      have q2 : PostS c G2 W D (match (f (.dat d) e2).bind F with
        | .next e => loopF s f F k e
        | .cnt e => loopF s f F k e
        | .brk e => .next e
        | o => o) := q2
      rcases hx (.dat d) e2 with ⟨e4, z⟩ | z
      · rw [z] at q2 ⊢
        intro σ4 G4 H4 r4 l4
        refine hb c G4 e4 σ4 H4 _ hK hm r4 ?_
        have q2 : PostS c G2 W D (match F e4 with
          | .next e => loopF s f F k e
          | .cnt e => loopF s f F k e
          | .brk e => .next e
          | o => o) := q2
        have L4 : Gle G2 G4 := l3.trans l4
        cases he : F e4 with
        | next e =>
          rw [he] at q2
          exact fun σ5 G5 H5 r5 l5 => ⟨G5, e, r5, ((l2.trans L4).trans l5), q2.imp (L4.trans l5) (fun _ _ z => z) (fun _ _ z => z) (fun _ _ z => z) fun _ _ z => z⟩
        | cnt e =>
          rw [he] at q2
          exact fun σ5 G5 H5 r5 l5 => ⟨G5, e, r5, ((l2.trans L4).trans l5), q2.imp (L4.trans l5) (fun _ _ z => z) (fun _ _ z => z) (fun _ _ z => z) fun _ _ z => z⟩
        | brk e =>
          rw [he] at q2
          exact fun σ5 G5 H5 r5 l5 => q2 σ5 G5 H5 r5 (L4.trans l5)
        | ret v e =>
          rw [he] at q2
          exact fun v σ5 G5 H5 r5 l5 p5 => q2 v σ5 G5 H5 r5 (L4.trans l5) p5
        | exc x fs e =>
          rw [he] at q2
          exact fun cls d σ5 G5 H5 r5 l5 p5 => q2 cls d σ5 G5 H5 r5 (L4.trans l5) p5
        | stuck =>
          rw [he] at q2
          exact q2
      · rw [z] at q2
        exact q2.elim
theorem sem_forN {wi : TI} {i : Nat} {tb : TS} {fs : Env → Out Src} {F : Env → OutS} (hi : SemI K mg W wi fs) (hb : SemS K mg W tb F) : SemS K mg W (tFor wi (gName i) tb) (sFor fs (gN i) F) := sem_for hi sem_gName (gN_ok i) hb

/-! ### the sources -/
def datS (ds : List D) : Src := ⟨ds.length, fun _ => true, fun _ i => ds[i]?⟩
def liveL (env : Env) (j : Nat) : Option (List D) := match env[j]? with
  | some (.par (.lst ds)) => some ds
  | some (.fpar (.lst ds)) => some ds
  | _ => none
def liveS (j n : Nat) : Src := ⟨n, fun env => match liveL env j with | some ds => ds.length == n | none => false, fun env i => (liveL env j).bind fun ds => if ds.length = n then ds[i]? else none⟩
/-- the source that a value is: data, or a parameter's own list as it stands -/
def srcOf (env : Env) : EV → Out Src
  | .dat (.lst ds) => .val (datS ds) env
  | .dat (.frl ds) => .val (datS ds) env
  | .dat (.tup ds) => .val (datS ds) env
  | .slot j => match env[j]? with
    | some (.own (.lst ds)) => .val (datS ds) (env.set j (.imm (.lst ds)))
    | some (.imm (.lst ds)) => .val (datS ds) env
    | some (.imm (.tup ds)) => .val (datS ds) env
    | some (.imm (.frl ds)) => .val (datS ds) env
    | some (.par (.lst ds)) => .val (liveS j ds.length) env
    | _ => .stuck
  | _ => .stuck
theorem turns_list {c : Ctx} {G : Hp} {a : Addr} {xs : List V} {ds : List D} (hG : G a = some (.lst xs)) (h : RA c.K G xs ds) : Turns c G (Itl c.K a) (datS ds) := by
  refine ⟨fun i G1 env σ H d r l hi hd => ?_, fun G1 env σ H r l _ => ?_⟩
  · have hs : SqL c.K H a xs := SqL.of (r.sub.lst (l _ _ hG))
    obtain ⟨v, hv, rv⟩ := h.get hd
    refine ⟨⟨xs, v, hs, hv⟩, fun x H' y => ?_⟩
    obtain ⟨rfl, y⟩ := y
    have := y xs hs
    rw [hv] at this
    cases this
    exact ⟨G1, r, Gle.refl _, rv.mono l.sub⟩
  · exact ⟨xs, SqL.of (r.sub.lst (l _ _ hG)), by rw [h.length]; exact Nat.le_refl _⟩
theorem turns_frl {c : Ctx} {G : Hp} {a : Addr} {xs : List V} {ds : List D} (hG : SqL c.K G a xs) (h : RA c.K G xs ds) : Turns c G (Itl c.K a) (datS ds) := by
  refine ⟨fun i G1 env σ H d r l hi hd => ?_, fun G1 env σ H r l _ => ?_⟩
  · have hs : SqL c.K H a xs := r.sub.sqL (l.sub.sqL hG)
    obtain ⟨v, hv, rv⟩ := h.get hd
    refine ⟨⟨xs, v, hs, hv⟩, fun x H' y => ?_⟩
    obtain ⟨rfl, y⟩ := y
    have := y xs hs
    rw [hv] at this
    cases this
    exact ⟨G1, r, Gle.refl _, rv.mono l.sub⟩
  · exact ⟨xs, r.sub.sqL (l.sub.sqL hG), by rw [h.length]; exact Nat.le_refl _⟩
theorem turns_tup {c : Ctx} {G : Hp} {a : Addr} {xs : List V} {ds : List D} (hG : SqT c.K G a xs) (h : RA c.K G xs ds) : Turns c G (Itt c.K a) (datS ds) := by
  refine ⟨fun i G1 env σ H d r l hi hd => ?_, fun G1 env σ H r l _ => ?_⟩
  · have hs : SqT c.K H a xs := r.sub.sqT (l.sub.sqT hG)
    obtain ⟨v, hv, rv⟩ := h.get hd
    refine ⟨⟨xs, v, hs, hv⟩, fun x H' y => ?_⟩
    obtain ⟨rfl, y⟩ := y
    have := y xs hs
    rw [hv] at this
    cases this
    exact ⟨G1, r, Gle.refl _, rv.mono l.sub⟩
  · exact ⟨xs, r.sub.sqT (l.sub.sqT hG), by rw [h.length]; exact Nat.le_refl _⟩
/-- a parameter's own list, as it stands -/
theorem live_at {c : Ctx} {G : Hp} {env : Env} {σ : L2.St} {H : Hp} {j : Nat} {p : Addr} {ds : List D} (r : Rel c G env σ H) (hp : c.pa j = some p) (e : liveL env j = some ds) : ∃ xs, H p = some (.lst xs) ∧ RA c.K G xs ds := by
  unfold liveL at e
  split at e
  · rename_i ds' he
    cases e
    obtain ⟨q, _, e2, _, xs, h1, h2⟩ := r.slot j _ he
    rw [hp] at e2
    cases e2
    exact ⟨xs, h1, h2⟩
  · rename_i ds' he
    cases e
    obtain ⟨q, _, e2, e3⟩ := r.slot j _ he
    rw [hp] at e2
    cases e2
    cases e3 with
    | lst h1 h2 => exact ⟨_, r.sub.lst h1, h2⟩
  · cases e
theorem turns_live {c : Ctx} {G : Hp} {j n : Nat} {p : Addr} (hp : c.pa j = some p) : Turns c G (Itl c.K p) (liveS j n) := by
  refine ⟨fun i G1 env σ H d r l hi hd => ?_, fun G1 env σ H r l hok => ?_⟩
  · obtain ⟨ds, he, hd⟩ := Option.bind_eq_some_iff.mp hd
    obtain ⟨xs, h1, h2⟩ := live_at r hp he
    split at hd
    · obtain ⟨v, hv, rv⟩ := h2.get hd
      refine ⟨⟨xs, v, SqL.of h1, hv⟩, fun x H' y => ?_⟩
      obtain ⟨rfl, y⟩ := y
      have := y xs (SqL.of h1)
      rw [hv] at this
      cases this
      exact ⟨G1, r, Gle.refl _, rv⟩
    · cases hd
  · have hok : (match liveL env j with | some ds => ds.length == n | none => false) = true := hok
    split at hok
    · rename_i ds he
      obtain ⟨xs, h1, h2⟩ := live_at r hp he
      have e2 : ds.length = n := by simpa using hok
      exact ⟨xs, SqL.of h1, by rw [h2.length, e2]; exact Nat.le_refl _⟩
    · cases hok
/-- for over a list or a tuple -/
def iSeq (K : PySem.W.Frag) (tl : TE) : TI := fun σ H R => tl σ H fun x H1 => (∃ a, x = .ref a ∧ (∃ xs, SqL K H1 a xs) ∧ R (Itl K a) H1) ∨ (∃ a, x = .ref a ∧ (∃ xs, SqT K H1 a xs) ∧ R (Itt K a) H1)
def srcV (fl : Env → Out EV) : Env → Out Src := fun env => (fl env).bind fun ev e1 => srcOf e1 ev
theorem Rel.ctx {c : Ctx} {G : Hp} {env : Env} {σ : L2.St} {H : Hp} {f : Addr → Option HO} {l : Addr → Option (Obj × HO)} (r : Rel { c with fr := f, lk := l } G env σ H) : True := trivial
theorem src_ok {c : Ctx} {G : Hp} {env : Env} {σ : L2.St} {H : Hp} {v : V} {ev : EV} {Q : It → Hp → Prop} (r : Rel c G env σ H) (p : RD c G σ v ev) (h : Post c G σ W (PT c) Q (srcOf env ev)) :
    (∃ a, v = .ref a ∧ (∃ xs, SqL c.K H a xs) ∧ Q (Itl c.K a) H) ∨ (∃ a, v = .ref a ∧ (∃ xs, SqT c.K H a xs) ∧ Q (Itt c.K a) H) := by
  have byL : ∀ {G' : Hp} {env' : Env} {ds : List D}, Rel c G' env' σ H → Gle G G' → R c.K G' v (.lst ds) → Post c G σ W (PT c) Q (.val (datS ds) env') → (∃ a, v = .ref a ∧ (∃ xs, SqL c.K H a xs) ∧ Q (Itl c.K a) H) := by
    intro G' env' ds r' l' hr hq
    cases hr with
    | lst h1 h2 => exact ⟨_, rfl, ⟨_, SqL.of (r'.sub.lst h1)⟩, hq _ G' H r' l' fun f l => turns_list h1 h2⟩
  have byF : ∀ {G' : Hp} {env' : Env} {ds : List D}, Rel c G' env' σ H → Gle G G' → R c.K G' v (.frl ds) → Post c G σ W (PT c) Q (.val (datS ds) env') → (∃ a, v = .ref a ∧ (∃ xs, SqL c.K H a xs) ∧ Q (Itl c.K a) H) := by
    intro G' env' ds r' l' hr hq
    cases hr with
    | frl h1 h2 => exact ⟨_, rfl, ⟨_, r'.sub.sqL h1⟩, hq _ G' H r' l' fun f l => turns_frl h1 h2⟩
  have byT : ∀ {G' : Hp} {env' : Env} {ds : List D}, Rel c G' env' σ H → Gle G G' → R c.K G' v (.tup ds) → Post c G σ W (PT c) Q (.val (datS ds) env') → (∃ a, v = .ref a ∧ (∃ xs, SqT c.K H a xs) ∧ Q (Itt c.K a) H) := by
    intro G' env' ds r' l' hr hq
    cases hr with
    | tup h1 h2 => exact ⟨_, rfl, ⟨_, r'.sub.sqT h1.1⟩, hq _ G' H r' l' fun f l => turns_tup h1.1 h2⟩
  cases ev with
  | new d => exact p.elim
  | dat d =>
    cases d with
    | lst ds => exact .inl (byL r (Gle.refl _) p h)
    | frl ds => exact .inl (byF r (Gle.refl _) p h)
    | tup ds => exact .inr (byT r (Gle.refl _) p h)
    | _ => exact h.elim
  | slot j =>
    have hw : σ[j]? = some (some v) := p
    have h : Post c G σ W (PT c) Q (match env[j]? with
      | some (.own (.lst ds)) => .val (datS ds) (env.set j (.imm (.lst ds)))
      | some (.imm (.lst ds)) => .val (datS ds) env
      | some (.imm (.tup ds)) => .val (datS ds) env
      | some (.imm (.frl ds)) => .val (datS ds) env
      | some (.par (.lst ds)) => .val (liveS j ds.length) env
      | _ => .stuck) := h
    split at h
    · rename_i ds he
      obtain ⟨q, G', e1, r', l', hr⟩ := r.freezeO he
      rw [hw] at e1
      cases e1
      exact .inl (byL r' l' hr h)
    · rename_i ds he
      obtain ⟨w, e1, hr⟩ := r.slot j _ he
      rw [hw] at e1
      cases e1
      exact .inl (byL r (Gle.refl _) hr h)
    · rename_i ds he
      obtain ⟨w, e1, hr⟩ := r.slot j _ he
      rw [hw] at e1
      cases e1
      exact .inr (byT r (Gle.refl _) hr h)
    · rename_i ds he
      obtain ⟨w, e1, hr⟩ := r.slot j _ he
      rw [hw] at e1
      cases e1
      exact .inl (byF r (Gle.refl _) hr h)
    · rename_i ds he
      obtain ⟨q, e1, e2, _, xs, h1, h2⟩ := r.slot j _ he
      rw [hw] at e1
      cases e1
      exact .inl ⟨q, rfl, ⟨xs, SqL.of h1⟩, h _ G H r (Gle.refl _) fun f l => turns_live e2⟩
    · exact h.elim
theorem sem_seqI {tl : TE} {fl : Env → Out EV} (hl : SemD K mg W tl fl) : SemI K mg W (iSeq K tl) (srcV fl) := by
  intro c G env σ H hK hm r R h
  refine hl c G env σ H hK hm r _ (post_bind h fun ev e1 v G1 H1 r1 l1 p1 q1 => ?_)
  subst hK
  exact src_ok r1 p1 q1
def rngS (lo : Int) (n : Nat) : Src := ⟨n, fun _ => true, fun _ i => some (.int (lo + (i : Nat)))⟩
theorem turns_range {c : Ctx} {G : Hp} {lo : Int} {n : Nat} : Turns c G (Itr lo n) (rngS lo n) := by
  refine ⟨fun i G1 env σ H d r l hi hd => ⟨hi, fun x H' y => ?_⟩, fun G1 env σ H r l hok => Nat.le_refl _⟩
  obtain ⟨rfl, rfl⟩ := y
  cases hd
  exact ⟨G1, r, Gle.refl _, .int _⟩
def in62 (j : Int) : Bool := decide (j.natAbs < 4611686018427387904)
theorem in62_ok {j : Int} (h : in62 j = true) : -(2 ^ 62) ≤ j ∧ j < 2 ^ 62 := by
  have := of_decide_eq_true h
  omega
def srcR1 (fa : Env → Out (List EV)) : Env → Out Src := fun env => (fa env).bind fun as e1 => match conts e1 as with
  | some [.int j] => if in62 j then .val (rngS 0 j.toNat) e1 else .stuck
  | _ => .stuck
theorem sem_range1 {ta : TA} {fa : Env → Out (List EV)} (ha : SemA K mg W ta fa) : SemI K mg W (iRng1 ta) (srcR1 fa) := by
  intro c G env σ H hK hm r R h
  refine ha c G env σ H hK hm r _ (post_bind h fun as e1 vs G1 H1 r1 l1 p1 q1 => ?_)
  split at q1
  · rename_i j hc
    split at q1
    · rename_i hj
      have hr := r1.reads p1 hc
      cases hr with
      | cons h1 h2 =>
        cases h2
        have hj := in62_ok hj
        exact ⟨j, by rw [h1.i], hj.1, hj.2, q1 _ G1 H1 r1 (Gle.refl _) fun f l => turns_range⟩
    · exact q1.elim
  · exact q1.elim
def srcR2 (fa : Env → Out (List EV)) : Env → Out Src := fun env => (fa env).bind fun as e1 => match conts e1 as with
  | some [.int i, .int j] => if in62 i && in62 j then .val (rngS i (j - i).toNat) e1 else .stuck
  | _ => .stuck
theorem sem_range2 {ta : TA} {fa : Env → Out (List EV)} (ha : SemA K mg W ta fa) : SemI K mg W (iRng2 ta) (srcR2 fa) := by
  intro c G env σ H hK hm r R h
  refine ha c G env σ H hK hm r _ (post_bind h fun as e1 vs G1 H1 r1 l1 p1 q1 => ?_)
  split at q1
  · rename_i i j hc
    split at q1
    · rename_i hj
      have hr := r1.reads p1 hc
      cases hr with
      | cons h1 h2 =>
        cases h2 with
        | cons h3 h4 =>
          cases h4
          rw [Bool.and_eq_true] at hj
          have hj1 := in62_ok hj.1
          have hj2 := in62_ok hj.2
          exact ⟨i, j, by rw [h1.i, h3.i], ⟨hj1.1, hj1.2, hj2.1, hj2.2⟩, q1 _ G1 H1 r1 (Gle.refl _) fun f l => turns_range⟩
    · exact q1.elim
  · exact q1.elim

/-! ### comprehensions -/
/-- the block's own names forgotten -/
def wipeE (env : Env) : List Nat → Env
  | [] => env
  | v :: vs => (wipeE env vs).set v .no
/-- may the block's names be forgotten (none holds a thing of its own) -/
def wipable (env : Env) (vs : List Nat) : Bool := vs.all fun v => match env[v]? with
  | some .no => true
  | some (.imm _) => true
  | _ => false
/-- the turns of a comprehension: the items so far -/
def loopC (s : Src) (g : EV → Env → OutS) (ft : Env → Out Bool) (fe : Env → Out EV) (vs : List Nat) : Nat → List D → Env → Out EV
  | 0, acc, env => if s.ok env then .val (.new (.lst acc)) env else .stuck
  | r + 1, acc, env => match s.it env (s.n - (r + 1)) with
    | none => .stuck
    | some d => match g (.dat d) env with
      | .next e1 => match ft e1 with
        | .val false e2 => if wipable e2 vs then loopC s g ft fe vs r acc (wipeE e2 vs) else .stuck
        | .val true e2 => match fe e2 with
          | .val ev e3 => match freeze e3 ev with
            | some (d, e4) => if acc.length < sizeLine ∧ wipable e4 vs = true then loopC s g ft fe vs r (acc ++ [d]) (wipeE e4 vs) else .stuck
            | none => .stuck
          | _ => .stuck
        | _ => .stuck
      | _ => .stuck
def eLc (fs : Env → Out Src) (g : EV → Env → OutS) (ft : Env → Out Bool) (fe : Env → Out EV) (vs : List Nat) : Env → Out EV := fun env => (fs env).bind fun s e => if wipable e vs then loopC s g ft fe vs s.n [] (wipeE e vs) else .stuck

theorem Rel.wipe1 {c : Ctx} {G H : Hp} {env : Env} {σ : L2.St} (r : Rel c G env σ H) {v : Nat} (h : (match env[v]? with | some .no => true | some (.imm _) => true | _ => false) = true) : Rel c G (env.set v .no) (σ.set v none) H where
  sub := r.sub
  g0 := r.g0
  gfix := r.gfix
  keep := r.keep
  lks := r.lks
  pah := r.pah
  pinj := r.pinj
  len := by rw [List.length_set, List.length_set]; exact r.len
  slot := fun j s hs => by
    rcases getElem?_set_cases hs with ⟨rfl, rfl⟩ | ⟨hne, hs'⟩
    · trivial
    · rw [List.getElem?_set_ne hne]
      exact r.slot j s hs'
  frs := fun a u e => by
    obtain ⟨h1, h2, h3⟩ := r.frs a u e
    refine ⟨h1, h2, fun j d' hj => ?_⟩
    have ne : v ≠ j := fun z => by
      subst z
      rcases hj with hj | hj <;> (rcases getElem?_set_cases hj with ⟨_, z⟩ | ⟨n, _⟩ <;> first | cases z | exact n rfl)
    rw [List.getElem?_set_ne ne]
    rw [List.getElem?_set_ne ne] at hj
    exact h3 j d' hj
  dist := fun j k q d1 d2 h1 h2 h3 h4 => by
    rcases getElem?_set_cases h1 with ⟨_, z⟩ | ⟨n1, h1'⟩
    · cases z
    · rcases getElem?_set_cases h2 with ⟨_, z⟩ | ⟨n2, h2'⟩
      · cases z
      · rw [List.getElem?_set_ne n1] at h3
        rw [List.getElem?_set_ne n2] at h4
        exact r.dist j k q _ _ h1' h2' h3 h4
  pars := fun j q hq => by
    obtain ⟨d', h'⟩ := r.pars j q hq
    have ne : v ≠ j := fun z => by
      subst z
      rcases h' with h' | h' <;> (rw [h'] at h; cases h)
    exact ⟨d', by rw [List.getElem?_set_ne ne]; exact h'⟩
theorem wipable_set {env : Env} {vs : List Nat} {v : Nat} (h : wipable env vs = true) : wipable (env.set v .no) vs = true := by
  unfold wipable at h ⊢
  rw [List.all_eq_true] at h ⊢
  intro j hj
  have := h j hj
  by_cases e : v = j
  · subst e
    by_cases hl : v < env.length
    · rw [List.getElem?_set_self hl]
    · rw [List.getElem?_eq_none (by omega)] at this
      cases this
  · rw [List.getElem?_set_ne e]
    exact this
theorem wipable_wipe {env : Env} {vs : List Nat} : ∀ {us : List Nat}, wipable env vs = true → wipable (wipeE env us) vs = true
  | [], h => h
  | _ :: _, h => wipable_set (wipable_wipe h)
theorem Rel.wipe {c : Ctx} {G H : Hp} {env : Env} {σ : L2.St} (r : Rel c G env σ H) : ∀ {vs : List Nat}, wipable env vs = true → Rel c G (wipeE env vs) (L2.wipe σ vs) H
  | [], _ => r
  | v :: vs, h => by
    have h' : wipable env vs = true := by
      unfold wipable at h ⊢
      rw [List.all_cons, Bool.and_eq_true] at h
      exact h.2
    have hv : wipable (wipeE env vs) (v :: vs) = true := wipable_wipe h
    unfold wipable at hv
    rw [List.all_cons, Bool.and_eq_true] at hv
    exact (Rel.wipe r h').wipe1 hv.1
/-- the frame's extra thing changes, or begins -/
def Ctx.ext (c : Ctx) (D : Addr) (o : HO) : Ctx := { c with fr := fun a => if a = D then some o else c.fr a }
theorem Rel.ext {c : Ctx} {G H : Hp} {env : Env} {σ : L2.St} (r : Rel c G env σ H) {q : Addr} {o : HO} (h : H q = none) : Rel (c.ext q o) G env σ (upd H q o) := by
  have r2 := r.newT (o := o) h
  refine ⟨r2.sub, r2.g0, r2.gfix, r2.keep, r2.lks, r2.pah, r2.pinj, r2.len, r2.slot, r2.dist, fun a u e => ?_, r2.pars⟩
  have e : (if a = q then some o else c.fr a) = some u := e
  by_cases z : a = q
  · subst z
    rw [if_pos rfl] at e
    cases e
    refine ⟨upd_same, r.freshG h, fun i d hi hs => ?_⟩
    have so := r.slot i
    rcases hi with hi | hi
    · obtain ⟨p, e1, _, _, ro⟩ := so _ hi
      rw [hs] at e1
      cases e1
      obtain ⟨o', ho, _⟩ := ro.has
      rw [h] at ho
      cases ho
    · obtain ⟨p, e1, _, _, ro⟩ := so _ hi
      rw [hs] at e1
      cases e1
      obtain ⟨o', ho, _⟩ := ro.has
      rw [h] at ho
      cases ho
  · rw [if_neg z] at e
    exact r2.frs a u e
theorem Rel.reext {c : Ctx} {G H : Hp} {env : Env} {σ : L2.St} {q : Addr} {o o' : HO} (hc : c.H0 q = none) (r : Rel (c.ext q o) G env σ H) (hl : ∀ xs, o = .lst xs → True) (hk : ∃ xs, o = .lst xs) : Rel (c.ext q o') G env σ (upd H q o') := by
  obtain ⟨hq, hg, hs⟩ := r.frs q o (if_pos rfl)
  refine ⟨fun a u e => ?_, r.g0, r.gfix, fun a u e hp => ?_, fun a ob u e => ?_, fun i p e => ⟨(r.pah i p e).1, ?_⟩, r.pinj, r.len, fun i s e => ?_, r.dist, fun a u e => ?_, r.pars⟩
  · have ne : a ≠ q := fun z => by
      rw [z, hg] at e
      cases e
    rw [upd_ne ne]
    exact r.sub a u e
  · have ne : a ≠ q := fun z => by
      have e : c.H0 a = some u := e
      rw [z, hc] at e
      cases e
    rw [upd_ne ne]
    exact r.keep a u e hp
  · have h1 := r.lks a ob u e
    have ne : a ≠ q := fun z => by
      rw [z, hq] at h1
      obtain ⟨xs, rfl⟩ := hk
      cases h1
    rw [upd_ne ne]
    exact h1
  · by_cases z : p = q
    · rw [z, upd_same]
      intro z2
      cases z2
    · rw [upd_ne z]
      exact (r.pah i p e).2
  · have so := r.slot i s e
    have so : SlotOk c G H i σ[i]? s := so
    refine (so.heap (c := c) (Gle.refl G) fun p hw hgp hs2 => ⟨hgp, upd_ne fun z => ?_⟩ : SlotOk c G (upd H q o') i σ[i]? s)
    subst z
    obtain ⟨d, rfl | rfl⟩ := hs2
    · exact hs i d (.inl e) hw
    · exact hs i d (.inr e) hw
  · have e : (if a = q then some o' else c.fr a) = some u := e
    by_cases z : a = q
    · subst z
      rw [if_pos rfl] at e
      cases e
      exact ⟨upd_same, hg, hs⟩
    · rw [if_neg z] at e
      obtain ⟨h1, h2, h3⟩ := r.frs a u (by show (if a = q then some o else c.fr a) = some u; rw [if_neg z]; exact e)
      exact ⟨by rw [upd_ne z]; exact h1, h2, h3⟩
/-- the frame's extra thing is handed out -/
theorem Rel.unext {c : Ctx} {G H : Hp} {env : Env} {σ : L2.St} {q : Addr} {o : HO} (hf : c.fr q = none) (r : Rel (c.ext q o) G env σ H) : Rel c G env σ H := by
  refine ⟨r.sub, r.g0, r.gfix, r.keep, r.lks, r.pah, r.pinj, r.len, r.slot, r.dist, fun a u e => r.frs a u ?_, r.pars⟩
  show (if a = q then some o else c.fr a) = some u
  have z : a ≠ q := fun z => by
    rw [z, hf] at e
    cases e
  rw [if_neg z]
  exact e
end
end DL

namespace DL
open PySem L2 PySem.Spec PyProof.Rows

theorem wipe_get (σ : L2.St) (i : Nat) : ∀ vs : List Nat, (L2.wipe σ vs)[i]? = if i ∈ vs then (if i < σ.length then some none else none) else σ[i]?
  | [] => by
    rw [if_neg (by simp)]
    rfl
  | v :: vs => by
    show ((L2.wipe σ vs).set v none)[i]? = _
    have ih := wipe_get σ i vs
    by_cases e : v = i
    · subst e
      rw [if_pos (by simp)]
      by_cases hl : v < σ.length
      · rw [if_pos hl, List.getElem?_set_self (by rw [wipe_length]; exact hl)]
      · rw [if_neg hl, List.getElem?_eq_none (by rw [List.length_set, wipe_length]; omega)]
    · rw [List.getElem?_set_ne e, ih]
      by_cases h : i ∈ vs
      · rw [if_pos h, if_pos (List.mem_cons_of_mem _ h)]
      · rw [if_neg h, if_neg (by intro z; rcases List.mem_cons.mp z with z | z; exact e z.symm; exact h z)]
theorem wipe_set (σ : L2.St) {j : Nat} {x : Option V} {vs : List Nat} (h : j ∈ vs) : L2.wipe (σ.set j x) vs = L2.wipe σ vs := by
  apply List.ext_getElem?
  intro i
  rw [wipe_get, wipe_get]
  by_cases e : i ∈ vs
  · rw [if_pos e, if_pos e, List.length_set]
  · rw [if_neg e, if_neg e, List.getElem?_set_ne (fun z => e (by rw [← z]; exact h))]
theorem wipe_wipe (σ : L2.St) (vs : List Nat) : L2.wipe (L2.wipe σ vs) vs = L2.wipe σ vs := by
  apply List.ext_getElem?
  intro i
  rw [wipe_get, wipe_get]
  by_cases e : i ∈ vs
  · rw [if_pos e, if_pos e, wipe_length]
  · rw [if_neg e, if_neg e]
theorem wipeE_get (σ : Env) (i : Nat) : ∀ vs : List Nat, (wipeE σ vs)[i]? = if i ∈ vs then (if i < σ.length then some .no else none) else σ[i]?
  | [] => by
    rw [if_neg (by simp)]
    rfl
  | v :: vs => by
    show ((wipeE σ vs).set v .no)[i]? = _
    have ih := wipeE_get σ i vs
    have hlen : ∀ us : List Nat, (wipeE σ us).length = σ.length := by
      intro us
      induction us with
      | nil => rfl
      | cons u us ih => unfold wipeE; rw [List.length_set, ih]
    by_cases e : v = i
    · subst e
      rw [if_pos (by simp)]
      by_cases hl : v < σ.length
      · rw [if_pos hl, List.getElem?_set_self (by rw [hlen]; exact hl)]
      · rw [if_neg hl, List.getElem?_eq_none (by rw [List.length_set, hlen]; omega)]
    · rw [List.getElem?_set_ne e, ih]
      by_cases h : i ∈ vs
      · rw [if_pos h, if_pos (List.mem_cons_of_mem _ h)]
      · rw [if_neg h, if_neg (by intro z; rcases List.mem_cons.mp z with z | z; exact e z.symm; exact h z)]
/-- the block is left: the names around stand as they stood -/
theorem Rel.unwipe {c : Ctx} {G H : Hp} {e : Env} {σ : L2.St} {vs : List Nat} (r : Rel c G (wipeE e vs) (L2.wipe σ vs) H) : Rel c G (wipeE e vs) σ H := by
  have nov : ∀ {j : Nat} {s : Slot}, (wipeE e vs)[j]? = some s → s ≠ .no → σ[j]? = (L2.wipe σ vs)[j]? := by
    intro j s hj hs
    rw [wipe_get]
    by_cases h : j ∈ vs
    · rw [wipeE_get, if_pos h] at hj
      split at hj
      · cases hj
        exact absurd rfl hs
      · cases hj
    · rw [if_neg h]
  refine ⟨r.sub, r.g0, r.gfix, r.keep, r.lks, r.pah, r.pinj, r.len.trans (wipe_length σ vs), fun i s hs => ?_, fun i j p d1 d2 h1 h2 h3 h4 => ?_, fun a u h => ?_, r.pars⟩
  · have so := r.slot i s hs
    cases s with
    | no => trivial
    | _ =>
      rw [nov hs (by intro z; cases z)]
      exact so
  · rw [nov h1 (by intro z; cases z)] at h3
    rw [nov h2 (by intro z; cases z)] at h4
    exact r.dist i j p d1 d2 h1 h2 h3 h4
  · obtain ⟨h1, h2, h3⟩ := r.frs a u h
    refine ⟨h1, h2, fun i d hi => ?_⟩
    have := h3 i d hi
    rcases hi with hi | hi <;> (rw [nov hi (by intro z; cases z)]; exact this)
/-- a target stores to none but these slots -/
def Keeps (g : TG) (vs : List Nat) : Prop := ∀ (v : V) (σ : L2.St) (H : Hp) (Q : L2.St → Hp → Prop), g v σ H (fun σ' H' => L2.wipe σ' vs = L2.wipe σ vs → Q σ' H') → g v σ H fun σ' H' => L2.wipe σ' vs = L2.wipe σ vs ∧ Q σ' H'
theorem keeps_name {i : Nat} {vs : List Nat} (h : i ∈ vs) : Keeps (gName i) vs := fun v σ H Q q => ⟨wipe_set σ h, q (wipe_set σ h)⟩
theorem keeps_two {K : PySem.W.Frag} {i j n : Nat} {vs : List Nat} (hi : i ∈ vs) (hj : j ∈ vs) : Keeps (gTup K n (gCons (gName i) (gCons (gName j) gNil))) vs := by
  rintro v σ H Q ⟨a, xs, e, h1, h2, x, r, e2, y, r2, e3, e4, q⟩
  have z : L2.wipe ((σ.set i (some x)).set j (some y)) vs = L2.wipe σ vs := by rw [wipe_set _ hj, wipe_set _ hi]
  exact ⟨a, xs, e, h1, h2, x, r, e2, y, r2, e3, e4, z, q z⟩
theorem keeps_three {K : PySem.W.Frag} {i j k n : Nat} {vs : List Nat} (hi : i ∈ vs) (hj : j ∈ vs) (hk : k ∈ vs) : Keeps (gTup K n (gCons (gName i) (gCons (gName j) (gCons (gName k) gNil)))) vs := by
  rintro v σ H Q ⟨a, xs, e, h1, h2, x, r, e2, y, r2, e3, w, r3, e4, e5, q⟩
  have z : L2.wipe (((σ.set i (some x)).set j (some y)).set k (some w)) vs = L2.wipe σ vs := by rw [wipe_set _ hk, wipe_set _ hj, wipe_set _ hi]
  exact ⟨a, xs, e, h1, h2, x, r, e2, y, r2, e3, w, r3, e4, e5, z, q z⟩

section
variable {K : PySem.W.Frag} {mg : MX} {W : WX}
abbrev W0 : WX := fun _ _ _ _ => False
theorem sem_yes : SemT K mg W tYes (fun env => .val true env) := fun c G env σ H hK hm r Q h => h true G H r (Gle.refl G) rfl
theorem post_le {c : Ctx} {G G' : Hp} {σ : L2.St} {α β : Type} {P : Hp → Env → Hp → α → β → Prop} {Q : β → Hp → Prop} {o : Out α} (h : Post c G σ W P Q o) (l : Gle G G') : Post c G' σ W P Q o := by
  cases o with
  | val a e => exact fun b G2 H' r l2 p => h b G2 H' r (l.trans l2) p
  | exc x fs e => exact fun cls d G2 H' r l2 p => h cls d G2 H' r (l.trans l2) p
  | stuck => exact h
theorem sem_lc {wi : TI} {g : TG} {tt : TT} {te : TE} {vs : List Nat} {fs : Env → Out Src} {f : EV → Env → OutS} {ft : Env → Out Bool} {fe : Env → Out EV} (hi : SemI K mg W wi fs) (hg : SemG K mg W0 g f) (hk : Keeps g vs)
    (ht : SemT K mg W0 tt ft) (he : SemE K mg W0 te fe) : SemE K mg W (tLc wi g tt te vs) (eLc fs f ft fe vs) := by
  intro c G env σ H hK hm r Q h
  refine hi c G env σ H hK hm r _ (post_bind h fun s e1 J G1 H1 r1 l1 p1 q1 => ?_)
  have p1 : ∀ f l, Turns { c with fr := f, lk := l } G1 J s := p1
  have q1 : Post c G1 σ W (PV c σ) Q (if wipable e1 vs = true then loopC s f ft fe vs s.n [] (wipeE e1 vs) else .stuck) := q1
  by_cases hw : wipable e1 vs = true
  · rw [if_pos hw] at q1
    intro Dl hD
    have h0 : c.H0 Dl = none := r1.fresh0 hD
    have hf : c.fr Dl = none := r1.nofr hD
    refine ⟨fun i m H' => m = s.n - i ∧ i ≤ s.n ∧ ∃ G' e' xs ds, Rel (c.ext Dl (.lst xs)) G' (wipeE e' vs) (L2.wipe σ vs) H' ∧ Gle G1 G' ∧ RA c.K G' xs ds ∧ Post c G' σ W (PV c σ) Q (loopC s f ft fe vs m ds (wipeE e' vs)),
      ⟨s.n, by simp, Nat.zero_le _, G1, e1, [], [], (r1.wipe hw).ext hD, Gle.refl _, .nil, q1⟩, ?_⟩
    rintro i m H' ⟨rfl, hi2, G2, e2, xs, ds, r2, l2, ra, q2⟩
    have T : Turns (c.ext Dl (.lst xs)) G1 J s := p1 _ _
    cases hm2 : s.n - i with
    | zero =>
      have e0 : i = s.n := by omega
      subst e0
      rw [hm2] at q2
      have q2 : Post c G2 σ W (PV c σ) Q (if s.ok (wipeE e2 vs) = true then .val (.new (.lst ds)) (wipeE e2 vs) else .stuck) := q2
      by_cases hok : s.ok (wipeE e2 vs) = true
      · rw [if_pos hok] at q2
        refine .inl ⟨T.stop G2 _ _ H' r2 l2 hok, ?_⟩
        obtain ⟨hq, hg2, hs⟩ := r2.frs Dl (.lst xs) (if_pos rfl)
        refine q2 _ G2 H' (r2.unext hf).unwipe (Gle.refl _) ⟨Dl, rfl, h0, hg2, ⟨xs, hq, ra⟩, fun j d hj hsj => ?_, hf⟩
        have r3 := (r2.unext hf).unwipe
        have : (L2.wipe σ vs)[j]? = some (some (.ref Dl)) := by
          rw [wipe_get]
          by_cases hv : j ∈ vs
          · rw [wipeE_get, if_pos hv] at hj
            split at hj <;> cases hj
          · rw [if_neg hv]
            exact hsj
        exact hs j d (.inl hj) this
      · rw [if_neg hok] at q2
        exact q2.elim
    | succ k =>
      have e0 : s.n - (k + 1) = i := by omega
      have hlt : i < s.n := by omega
      rw [hm2] at q2
      unfold loopC at q2
      rw [e0] at q2
      cases hd : s.it (wipeE e2 vs) i with
      | none =>
        rw [hd] at q2
        exact q2.elim
      | some d =>
        rw [hd] at q2
        obtain ⟨hgo, hy⟩ := T.go i G2 _ _ H' d r2 l2 hlt hd
        refine .inr ⟨hgo, fun H3 => ∃ G' e' xs ds, Rel (c.ext Dl (.lst xs)) G' (wipeE e' vs) (L2.wipe σ vs) H3 ∧ Gle G1 G' ∧ RA c.K G' xs ds ∧ Post c G' σ W (PV c σ) Q (loopC s f ft fe vs k ds (wipeE e' vs)),
          fun H3 w => ⟨k, by omega, by omega, by omega, w⟩, fun x H3 y => ?_⟩
        obtain ⟨G3, r3, l3, p3⟩ := hy x H3 y
        have q2 : Post c G2 σ W (PV c σ) Q (match f (.dat d) (wipeE e2 vs) with
          | .next e1 => match ft e1 with
            | .val false e2 => if wipable e2 vs then loopC s f ft fe vs k ds (wipeE e2 vs) else .stuck
            | .val true e2 => match fe e2 with
              | .val ev e3 => match freeze e3 ev with
                | some (d, e4) => if ds.length < sizeLine ∧ wipable e4 vs = true then loopC s f ft fe vs k (ds ++ [d]) (wipeE e4 vs) else .stuck
                | none => .stuck
              | _ => .stuck
            | _ => .stuck
          | _ => .stuck) := q2
        cases hfd : f (.dat d) (wipeE e2 vs) with
        | next e4 =>
          rw [hfd] at q2
          have q2 : Post c G2 σ W (PV c σ) Q (match ft e4 with
            | .val false e2 => if wipable e2 vs then loopC s f ft fe vs k ds (wipeE e2 vs) else .stuck
            | .val true e2 => match fe e2 with
              | .val ev e3 => match freeze e3 ev with
                | some (d, e4) => if ds.length < sizeLine ∧ wipable e4 vs = true then loopC s f ft fe vs k (ds ++ [d]) (wipeE e4 vs) else .stuck
                | none => .stuck
              | _ => .stuck
            | _ => .stuck) := q2
          have ww : L2.wipe (L2.wipe σ vs) vs = L2.wipe σ vs := wipe_wipe σ vs
          have key := hk x (L2.wipe σ vs) H3 (fun σ2 H2 => tt σ2 H2 fun b H3' => if b = true then te σ2 H3' fun y H4 => ∃ acc, H4 Dl = some (.lst acc) ∧ acc.length < sizeLine ∧ (∃ G' e' xs ds, Rel (c.ext Dl (.lst xs)) G' (wipeE e' vs) (L2.wipe σ vs) (upd H4 Dl (.lst (acc ++ [y]))) ∧ Gle G1 G' ∧ RA c.K G' xs ds ∧ Post c G' σ W (PV c σ) Q (loopC s f ft fe vs k ds (wipeE e' vs)))
              else ∃ G' e' xs ds, Rel (c.ext Dl (.lst xs)) G' (wipeE e' vs) (L2.wipe σ vs) H3' ∧ Gle G1 G' ∧ RA c.K G' xs ds ∧ Post c G' σ W (PV c σ) Q (loopC s f ft fe vs k ds (wipeE e' vs)))
            (hg (c.ext Dl (.lst xs)) G3 (wipeE e2 vs) (L2.wipe σ vs) H3 x (.dat d) _ hK hm r3 p3 (by
              rw [hfd]
              intro σ4 G4 H4 r4 l4 hwi
              rw [ww] at hwi
              refine ht (c.ext Dl (.lst xs)) G4 e4 σ4 H4 hK hm r4 _ ?_
              cases hft : ft e4 with
              | val b e5 =>
                rw [hft] at q2
                intro b' G5 H5 r5 l5 hb
                obtain rfl : b = b' := hb
                have L5 : Gle G2 G5 := (l3.trans l4).trans l5
                cases b with
                | false =>
                  have q2 : Post c G2 σ W (PV c σ) Q (if wipable e5 vs then loopC s f ft fe vs k ds (wipeE e5 vs) else .stuck) := q2
                  by_cases h5 : wipable e5 vs = true
                  · rw [if_pos h5] at q2
                    refine ⟨G5, e5, xs, ds, ?_, l2.trans L5, ra.mono L5.sub, ?_⟩
                    · rw [← hwi]
                      exact r5.wipe h5
                    · exact post_le q2 L5
                  · rw [if_neg h5] at q2
                    exact q2.elim
                | true =>
                  have q2 : Post c G2 σ W (PV c σ) Q (match fe e5 with
                    | .val ev e3 => match freeze e3 ev with
                      | some (d, e4) => if ds.length < sizeLine ∧ wipable e4 vs = true then loopC s f ft fe vs k (ds ++ [d]) (wipeE e4 vs) else .stuck
                      | none => .stuck
                    | _ => .stuck) := q2
                  show te σ4 H5 _
                  refine he (c.ext Dl (.lst xs)) G5 e5 σ4 H5 hK hm r5 _ ?_
                  cases hfe : fe e5 with
                  | val ev e6 =>
                    rw [hfe] at q2
                    intro y G6 H6 r6 l6 p6
                    have p6 : RV (c.ext Dl (.lst xs)) G6 e6 σ4 H6 y ev := p6
                    have q2 : Post c G2 σ W (PV c σ) Q (match freeze e6 ev with
                      | some (d, e4) => if ds.length < sizeLine ∧ wipable e4 vs = true then loopC s f ft fe vs k (ds ++ [d]) (wipeE e4 vs) else .stuck
                      | none => .stuck) := q2
                    cases hfr : freeze e6 ev with
                    | none =>
                      rw [hfr] at q2
                      exact q2.elim
                    | some z =>
                      obtain ⟨d7, e7⟩ := z
                      rw [hfr] at q2
                      have q2 : Post c G2 σ W (PV c σ) Q (if ds.length < sizeLine ∧ wipable e7 vs = true then loopC s f ft fe vs k (ds ++ [d7]) (wipeE e7 vs) else .stuck) := q2
                      obtain ⟨G7, r7, l7, p7⟩ := r6.freeze p6 hfr
                      have L7 : Gle G2 G7 := (L5.trans l6).trans l7
                      have ra7 : RA c.K G7 xs ds := ra.mono L7.sub
                      by_cases h7 : ds.length < sizeLine ∧ wipable e7 vs = true
                      · rw [if_pos h7] at q2
                        obtain ⟨hq7, hg7, hs7⟩ := r7.frs Dl (.lst xs) (if_pos rfl)
                        refine ⟨xs, hq7, by rw [ra7.length]; exact h7.1, G7, e7, xs ++ [y], ds ++ [d7], ?_, l2.trans L7, ra7.append (.cons p7 .nil), post_le q2 L7⟩
                        have r8 := (r7.wipe h7.2).reext (o' := .lst (xs ++ [y])) h0 (fun _ _ => trivial) ⟨xs, rfl⟩
                        rw [hwi] at r8
                        exact r8
                      · rw [if_neg h7] at q2
                        exact q2.elim
                  | exc x fs e6 =>
                    rw [hfe] at q2
                    exact q2.elim
                  | stuck =>
                    rw [hfe] at q2
                    exact q2.elim
              | exc x fs e5 =>
                rw [hft] at q2
                exact q2.elim
              | stuck =>
                rw [hft] at q2
                exact q2.elim))
          rw [ww] at key
          exact key
        | _ =>
          rw [hfd] at q2
          exact q2.elim
  · rw [if_neg hw] at q1
    exact q1.elim
end
end DL

namespace DL
open PySem L2 PySem.Spec PyProof.Rows

/-! ### defs -/
inductive OutF where
  | ret (ev : EV) (args : List Slot) | exc (x : Str) (fs : Option (List (Str × D))) (args : List Slot) | stuck
  deriving Inhabited
def funF (np nl : Nat) (F : Env → OutS) (args : List Slot) : OutF := match F (args ++ List.replicate (nl - np) .no) with
  | .next e => .ret (.dat .non) (e.take np)
  | .ret (.dat d) e => .ret (.dat d) (e.take np)
  | .ret (.new d) e => .ret (.new d) (e.take np)
  | .exc x fs e => .exc x fs (e.take np)
  | _ => .stuck
def paOf (vs : List V) (args : List Slot) (i : Nat) : Option Addr := match args[i]?, vs[i]? with
  | some (.par _), some (.ref p) => some p
  | _, _ => none
theorem paOf_some {vs : List V} {args : List Slot} {i : Nat} {p : Addr} (h : paOf vs args i = some p) : ∃ d, args[i]? = some (.par d) ∧ vs[i]? = some (.ref p) := by
  unfold paOf at h
  split at h
  · rename_i d q h1 h2
    cases h
    exact ⟨d, h1, h2⟩
  · cases h
theorem paOf_of {vs : List V} {args : List Slot} {i : Nat} {p : Addr} {d : D} (h1 : args[i]? = some (.par d)) (h2 : vs[i]? = some (.ref p)) : paOf vs args i = some p := by
  unfold paOf
  rw [h1, h2]
def ArgOk (K : PySem.W.Frag) (G H : Hp) (v : V) : Slot → Prop
  | .imm d => R K G v d
  | .par d => ∃ p, v = .ref p ∧ G p = none ∧ RO K G H p d
  | _ => False
structure ArgsOk (K : PySem.W.Frag) (G H : Hp) (vs : List V) (args : List Slot) : Prop where
  len : vs.length = args.length
  ok : ∀ (i : Nat) (v : V) (s : Slot), vs[i]? = some v → args[i]? = some s → ArgOk K G H v s
  inj : ∀ (i j : Nat) (p : Addr), paOf vs args i = some p → paOf vs args j = some p → i = j
structure FPost (K : PySem.W.Frag) (G H : Hp) (vs : List V) (args args' : List Slot) (G' H' : Hp) : Prop where
  sub : Sub G' H'
  le : Gle G G'
  gfix : ∀ a, H a ≠ none → (∀ i, paOf vs args i ≠ some a) → G' a = G a
  keep : ∀ a o, H a = some o → (∀ i, paOf vs args i ≠ some a) → H' a = some o
  par : ∀ i p, paOf vs args i = some p → H' p ≠ none ∧ ∃ d, (args'[i]? = some (.par d) ∧ G' p = none ∧ RO K G' H' p d) ∨ (args'[i]? = some (.fpar d) ∧ R K G' (.ref p) d)
def FRes (K : PySem.W.Frag) (H G' H' : Hp) (v : V) : EV → Prop
  | .dat d => R K G' v d
  | .new d => ∃ p, v = .ref p ∧ H p = none ∧ G' p = none ∧ RO K G' H' p d
  | .slot _ => False
def spD (K : PySem.W.Frag) (mg : Str → Option Value) (np : Nat) (F : List Slot → OutF) : Sp := fun vs H Q E => vs.length = np ∧ ∃ (G : Hp) (args : List Slot), Sub G H ∧ ArgsOk K G H vs args ∧ match F args with
  | .ret ev args' => ∀ v G' H', FPost K G H vs args args' G' H' → FRes K H G' H' v ev → Q v H'
  | .exc x fs args' => ∀ cls dd G' H', FPost K G H vs args args' G' H' → XOkK K mg G' x fs cls dd → E cls dd H'
  | .stuck => False
section
variable {K : PySem.W.Frag} {mg : Str → Option Value}
def fctx (K : PySem.W.Frag) (mg : Str → Option Value) (G H : Hp) (vs : List V) (args : List Slot) : Ctx := ⟨K, mg, H, G, paOf vs args, none, fun _ => none, fun _ => none⟩
theorem start_get {N : List Str} {vs : List V} {i : Nat} {v : V} (h : vs[i]? = some v) : (L2.start N vs)[i]? = some (some v) := by
  unfold L2.start
  have hl := (List.getElem?_eq_some_iff.mp h).1
  rw [List.getElem?_append_left (by rw [List.length_map]; exact hl), List.getElem?_map, h]
  rfl
theorem entry_rel {G H : Hp} {vs : List V} {args : List Slot} {N : List Str} (hs : Sub G H) (ha : ArgsOk K G H vs args) (hn : args.length ≤ N.length) : Rel (fctx K mg G H vs args) G (args ++ List.replicate (N.length - args.length) .no) (L2.start N vs) H where
  sub := hs
  g0 := Gle.refl G
  gfix := fun a _ _ => rfl
  keep := fun a o h _ => .inl h
  lks := fun a ob u h => by cases h
  pah := fun i p h => by
    obtain ⟨d, h1, h2⟩ := paOf_some h
    obtain ⟨q, e, _, ro⟩ := ha.ok i _ _ h2 h1
    cases e
    obtain ⟨o, ho, _⟩ := ro.has
    have hz : H p ≠ none := by
      rw [ho]
      intro z
      cases z
    exact ⟨hz, hz⟩
  pinj := ha.inj
  len := by
    unfold L2.start
    rw [List.length_append, List.length_append, List.length_replicate, List.length_replicate, List.length_map, ha.len]
  slot := fun i s h => by
    by_cases hi : i < args.length
    · rw [List.getElem?_append_left hi] at h
      have hv : i < vs.length := by
        rw [ha.len]
        exact hi
      have hvi : vs[i]? = some vs[i] := List.getElem?_eq_getElem hv
      have ok := ha.ok i _ _ hvi h
      rw [start_get hvi]
      cases s with
      | imm d => exact ⟨_, rfl, ok⟩
      | par d =>
        obtain ⟨p, e, hg, ro⟩ := ok
        rw [e] at hvi
        exact ⟨p, by rw [e], paOf_of h hvi, hg, ro⟩
      | _ => exact ok.elim
    · rw [List.getElem?_append_right (by omega)] at h
      rw [List.getElem?_replicate] at h
      split at h
      · cases h
        trivial
      · cases h
  dist := fun i j p d e h1 _ _ _ => by
    exfalso
    by_cases hi : i < args.length
    · rw [List.getElem?_append_left hi] at h1
      have hv : i < vs.length := by
        rw [ha.len]
        exact hi
      exact ha.ok i _ _ (List.getElem?_eq_getElem hv) h1
    · rw [List.getElem?_append_right (by omega), List.getElem?_replicate] at h1
      split at h1 <;> cases h1
  frs := fun a o h => by cases h
  pars := fun i p h => by
    obtain ⟨d, h1, h2⟩ := paOf_some h
    exact ⟨d, .inl (by rw [List.getElem?_append_left (List.getElem?_eq_some_iff.mp h1).1]; exact h1)⟩
theorem exit_post {G H G' H' : Hp} {vs : List V} {args : List Slot} {e : Env} {σ : L2.St} (hlen : vs.length = args.length) (r : Rel (fctx K mg G H vs args) G' e σ H') (l : Gle G G') : FPost K G H vs args (e.take args.length) G' H' where
  sub := r.sub
  le := l
  gfix := r.gfix
  keep := fun a o h hp => by
    rcases r.keep a o h hp with h' | ⟨ob, h'⟩
    · exact h'
    · cases h'
  par := fun i p h => by
    refine ⟨(r.pah i p h).2, ?_⟩
    obtain ⟨d0, h1, h2⟩ := paOf_some h
    have hi : i < args.length := (List.getElem?_eq_some_iff.mp h1).1
    obtain ⟨d, hd | hd⟩ := r.pars i p h
    · obtain ⟨q, _, e2, hg, ro⟩ := r.slot i _ hd
      have e2 : paOf vs args i = some q := e2
      rw [h] at e2
      cases e2
      exact ⟨d, .inl ⟨by rw [List.getElem?_take, if_pos hi]; exact hd, hg, ro⟩⟩
    · obtain ⟨q, _, e2, ro⟩ := r.slot i _ hd
      have e2 : paOf vs args i = some q := e2
      rw [h] at e2
      cases e2
      exact ⟨d, .inr ⟨by rw [List.getElem?_take, if_pos hi]; exact hd, ro⟩⟩
/-- a body's plain reading gives the def's promise -/
theorem sem_fn {t : TS} {F : Env → OutS} {N : List Str} {np nl : Nat} {vs : List V} {H : Hp} {Q : VK} {E : XK} (hs : SemS K (mg, none) (fun cls d _ H => E cls d H) t F) (hnl : nl = N.length) (hn : np ≤ nl) (h : spD K mg np (funF np nl F) vs H Q E) :
    t { nx := fun _ H' => Q .non H', rt := Q } (L2.start N vs) H := by
  subst hnl
  obtain ⟨hl, G, args, hsub, ha, hq⟩ := h
  have hna : args.length = np := ha.len.symm.trans hl
  subst hna
  have r := entry_rel (mg := mg) hsub ha hn
  refine hs _ G _ _ H _ rfl rfl r ?_
  unfold funF at hq
  cases he : F (args ++ List.replicate (N.length - args.length) .no) with
  | next e =>
    rw [he] at hq
    exact fun σ' G' H' r' l => hq .non G' H' (exit_post ha.len r' l) .non
  | ret ev e =>
    rw [he] at hq
    cases ev with
    | dat d => exact fun v σ' G' H' r' l p => hq v G' H' (exit_post ha.len r' l) p
    | new d =>
      intro v σ' G' H' r' l p
      obtain ⟨q, rfl, h0, hg, ro, _⟩ := p
      exact hq _ G' H' (exit_post ha.len r' l) ⟨q, rfl, h0, hg, ro⟩
    | slot i => exact hq.elim
  | exc x fs e =>
    rw [he] at hq
    exact fun cls d σ' G' H' r' l p => hq cls d G' H' (exit_post ha.len r' l) p
  | brk e =>
    rw [he] at hq
    exact hq.elim
  | cnt e =>
    rw [he] at hq
    exact hq.elim
  | stuck =>
    rw [he] at hq
    exact hq.elim

/-! ### calls of defs -/
def isSlot (j : Nat) : EV → Bool
  | .slot i => i == j
  | _ => false
theorem isSlot_iff {j : Nat} {ev : EV} (h : isSlot j ev = true) : ev = .slot j := by
  cases ev with
  | slot i =>
    have : i = j := by simpa [isSlot] using h
    rw [this]
  | _ => cases h
def toArg (env : Env) : EV → Option Slot
  | .dat d => some (.imm d)
  | .slot i => match env[i]? with
    | some (.imm d) => some (.imm d)
    | some (.fpar d) => some (.imm d)
    | some (.own d) => some (.par d)
    | some (.par d) => some (.par d)
    | _ => none
  | .new _ => none
def toArgs (env : Env) : List EV → Option (List Slot)
  | [] => some []
  | e :: es => (toArg env e).bind fun s => (toArgs env es).bind fun r => some (s :: r)
/-- no slot's object is handed over twice -/
def onceEach (env : Env) : List EV → Bool
  | [] => true
  | .slot i :: es => (match env[i]? with
    | some (.own _) => !es.any (isSlot i)
    | some (.par _) => !es.any (isSlot i)
    | _ => true) && onceEach env es
  | _ :: es => onceEach env es
def backSlot (as : List EV) (args' : List Slot) (j : Nat) (s : Slot) : Slot := match s with
  | .own d => match as.findIdx? (isSlot j) with
    | some k => match args'[k]? with
      | some (.par d') => .own d'
      | some (.fpar d') => .imm d'
      | _ => .own d
    | none => .own d
  | .par d => match as.findIdx? (isSlot j) with
    | some k => match args'[k]? with
      | some (.par d') => .par d'
      | some (.fpar d') => .fpar d'
      | _ => .par d
    | none => .par d
  | s => s
def back (as : List EV) (args' : List Slot) (env : Env) : Env := env.mapIdx (backSlot as args')
theorem toArgs_get {env : Env} : ∀ {es : List EV} {args : List Slot} {i : Nat}, toArgs env es = some args → es.length = args.length ∧ ∀ s, args[i]? = some s → ∃ ev, es[i]? = some ev ∧ toArg env ev = some s
  | [], args, i, h => by
    cases h
    exact ⟨rfl, fun s h => by simp at h⟩
  | e :: es, args, i, h => by
    obtain ⟨s, h1, h⟩ := Option.bind_eq_some_iff.mp h
    obtain ⟨r, h2, h⟩ := Option.bind_eq_some_iff.mp h
    cases h
    refine ⟨by rw [List.length_cons, List.length_cons, (toArgs_get (i := 0) h2).1], fun t ht => ?_⟩
    cases i with
    | zero =>
      simp at ht
      subst ht
      exact ⟨e, by simp, h1⟩
    | succ i =>
      simp only [List.getElem?_cons_succ] at ht ⊢
      exact (toArgs_get h2).2 t ht
theorem RDs.get {c : Ctx} {G : Hp} {σ : L2.St} : ∀ {vs : List V} {es : List EV} {i : Nat} {v : V} {ev : EV}, RDs c G σ vs es → vs[i]? = some v → es[i]? = some ev → RD c G σ v ev
  | [], _, _, _, _, _, h, _ => by simp at h
  | _ :: _, [], _, _, _, h, _, _ => h.elim
  | v :: vs, e :: es, 0, _, _, ⟨h1, _⟩, hv, he => by
    simp at hv he
    subst hv he
    exact h1
  | v :: vs, e :: es, i + 1, _, _, ⟨_, h2⟩, hv, he => by
    simp only [List.getElem?_cons_succ] at hv he
    exact h2.get hv he
theorem RDs.length {c : Ctx} {G : Hp} {σ : L2.St} : ∀ {vs : List V} {es : List EV}, RDs c G σ vs es → vs.length = es.length
  | [], [], _ => rfl
  | [], _ :: _, h => h.elim
  | _ :: _, [], h => h.elim
  | _ :: _, _ :: _, ⟨_, h2⟩ => congrArg (· + 1) h2.length
/-- an argument that is handed over: its slot and the slot's object -/
theorem par_slot {c : Ctx} {G H : Hp} {env : Env} {σ : L2.St} {vs : List V} {es : List EV} {args : List Slot} (r : Rel c G env σ H) (hv : RDs c G σ vs es) (ha : toArgs env es = some args) {i : Nat} {p : Addr} (h : paOf vs args i = some p) :
    ∃ (j : Nat) (d : D), es[i]? = some (EV.slot j) ∧ σ[j]? = some (some (.ref p)) ∧ (env[j]? = some (.own d) ∨ env[j]? = some (.par d)) := by
  obtain ⟨d, h1, h2⟩ := paOf_some h
  obtain ⟨ev, h3, h4⟩ := (toArgs_get ha).2 _ h1
  have rd := hv.get h2 h3
  cases ev with
  | dat d' => cases h4
  | new d' => cases h4
  | slot j =>
    have h4 : (match env[j]? with
      | some (.imm d) => some (.imm d)
      | some (.fpar d) => some (.imm d)
      | some (.own d) => some (.par d)
      | some (.par d) => some (.par d)
      | _ => none) = some (Slot.par d) := h4
    split at h4
    · cases h4
    · cases h4
    · rename_i d' he
      cases h4
      exact ⟨j, _, h3, rd, .inl he⟩
    · rename_i d' he
      cases h4
      exact ⟨j, _, h3, rd, .inr he⟩
    · cases h4
theorem slot_same {c : Ctx} {G H : Hp} {env : Env} {σ : L2.St} (r : Rel c G env σ H) {j k : Nat} {p : Addr} {d e : D} (hj : env[j]? = some (.own d) ∨ env[j]? = some (.par d)) (hk : env[k]? = some (.own e) ∨ env[k]? = some (.par e)) (h1 : σ[j]? = some (some (.ref p))) (h2 : σ[k]? = some (some (.ref p))) : j = k := by
  rcases hj with hj | hj
  · rcases hk with hk | hk
    · exact r.dist j k p d e hj hk h1 h2
    · obtain ⟨q, e1, e2, _⟩ := r.slot j _ hj
      rw [h1] at e1
      cases e1
      obtain ⟨q, e1, e3, _⟩ := r.slot k _ hk
      rw [h2] at e1
      cases e1
      exact absurd e3 (r.nopa e2 k)
  · rcases hk with hk | hk
    · obtain ⟨q, e1, e2, _⟩ := r.slot j _ hj
      rw [h1] at e1
      cases e1
      obtain ⟨q, e1, e3, _⟩ := r.slot k _ hk
      rw [h2] at e1
      cases e1
      exact absurd e2 (r.nopa e3 j)
    · obtain ⟨q, e1, e2, _⟩ := r.slot j _ hj
      rw [h1] at e1
      cases e1
      obtain ⟨q, e1, e3, _⟩ := r.slot k _ hk
      rw [h2] at e1
      cases e1
      exact r.pinj j k p e2 e3
theorem once_get {env : Env} {j : Nat} {d : D} (hj : env[j]? = some (.own d) ∨ env[j]? = some (.par d)) : ∀ {es : List EV} {i k : Nat}, onceEach env es = true → es[i]? = some (.slot j) → es[k]? = some (.slot j) → i = k := by
  intro es
  induction es with
  | nil => intro i k _ h; simp at h
  | cons e es ih =>
    intro i k h hi hk
    have tail : onceEach env es = true := by
      cases e with
      | slot m =>
        have h : ((match env[m]? with
          | some (.own _) => !es.any (isSlot m)
          | some (.par _) => !es.any (isSlot m)
          | _ => true) && onceEach env es) = true := h
        rw [Bool.and_eq_true] at h
        exact h.2
      | _ => exact h
    have head : e = EV.slot j → ∀ m : Nat, es[m]? = some (EV.slot j) → False := by
      rintro rfl m hm
      have h : ((match env[j]? with
          | some (.own _) => !es.any (isSlot j)
          | some (.par _) => !es.any (isSlot j)
          | _ => true) && onceEach env es) = true := h
      rw [Bool.and_eq_true] at h
      have h1 := h.1
      have an : es.any (isSlot j) = true := by
        rw [List.any_eq_true]
        exact ⟨_, List.mem_of_getElem? hm, by simp [isSlot]⟩
      rcases hj with hj | hj <;> (rw [hj] at h1; simp [an] at h1)
    cases i with
    | zero =>
      cases k with
      | zero => rfl
      | succ k =>
        simp at hi hk
        exact (head hi k (by simpa using hk)).elim
    | succ i =>
      cases k with
      | zero =>
        simp at hi hk
        exact (head hk i (by simpa using hi)).elim
      | succ k =>
        simp only [List.getElem?_cons_succ] at hi hk
        rw [ih tail hi hk]
theorem args_ok {c : Ctx} {G H : Hp} {env : Env} {σ : L2.St} {vs : List V} {es : List EV} {args : List Slot} (r : Rel c G env σ H) (hv : RDs c G σ vs es) (ha : toArgs env es = some args) (ho : onceEach env es = true) : ArgsOk c.K G H vs args where
  len := hv.length.trans (toArgs_get (i := 0) ha).1
  ok := fun i v s h1 h2 => by
    obtain ⟨ev, h3, h4⟩ := (toArgs_get ha).2 _ h2
    have rd := hv.get h1 h3
    cases ev with
    | new d => cases h4
    | dat d =>
      cases h4
      exact rd
    | slot j =>
      have hw : σ[j]? = some (some v) := rd
      have h4 : (match env[j]? with
        | some (.imm d) => some (.imm d)
        | some (.fpar d) => some (.imm d)
        | some (.own d) => some (.par d)
        | some (.par d) => some (.par d)
        | _ => none) = some s := h4
      split at h4
      · rename_i d he
        cases h4
        obtain ⟨w, e1, e2⟩ := r.slot j _ he
        rw [hw] at e1
        cases e1
        exact e2
      · rename_i d he
        cases h4
        obtain ⟨w, e1, _, e2⟩ := r.slot j _ he
        rw [hw] at e1
        cases e1
        exact e2
      · rename_i d he
        cases h4
        obtain ⟨w, e1, _, e2, e3⟩ := r.slot j _ he
        rw [hw] at e1
        cases e1
        exact ⟨_, rfl, e2, e3⟩
      · rename_i d he
        cases h4
        obtain ⟨w, e1, _, e2, e3⟩ := r.slot j _ he
        rw [hw] at e1
        cases e1
        exact ⟨_, rfl, e2, e3⟩
      · cases h4
  inj := fun i k p h1 h2 => by
    obtain ⟨j, d, a1, a2, a3⟩ := par_slot r hv ha h1
    obtain ⟨m, e, b1, b2, b3⟩ := par_slot r hv ha h2
    have := slot_same r a3 b3 a2 b2
    subst this
    exact once_get a3 ho a1 b1
theorem back_get {as : List EV} {args' : List Slot} {env : Env} {j : Nat} : (back as args' env)[j]? = (env[j]?).map (backSlot as args' j) := by
  unfold back
  rw [List.getElem?_mapIdx]
/-- behind a call -/
theorem Rel.back {c : Ctx} {G H G' H' : Hp} {env : Env} {σ : L2.St} {vs : List V} {es : List EV} {args args' : List Slot} (r : Rel c G env σ H) (hv : RDs c G σ vs es) (ha : toArgs env es = some args) (ho : onceEach env es = true) (f : FPost c.K G H vs args args' G' H') : Rel c G' (back es args' env) σ H' := by
  -- an address that is handed over is a slot's own, so none of the others'
  have nofr : ∀ {a : Addr} {o : HO}, c.fr a = some o → ∀ i, paOf vs args i ≠ some a := by
    intro a o hf i hi
    obtain ⟨j, d, _, a2, a3⟩ := par_slot r hv ha hi
    rw [r.frown a3 a2] at hf
    cases hf
  have nolk : ∀ {a : Addr} {ob : Obj} {u : HO}, c.lk a = some (ob, u) → ∀ i, paOf vs args i ≠ some a := by
    intro a ob u hl i hi
    obtain ⟨j, d, _, a2, a3⟩ := par_slot r hv ha hi
    have h1 := r.lks a ob u hl
    rcases a3 with a3 | a3
    · obtain ⟨q, e1, _, _, ro⟩ := r.slot j _ a3
      rw [a2] at e1
      cases e1
      obtain ⟨o, ho', _, hk⟩ := ro.has
      rw [ho'] at h1
      cases h1
      rcases hk with ⟨_, z⟩ | ⟨_, z⟩ <;> cases z
    · obtain ⟨q, e1, _, _, ro⟩ := r.slot j _ a3
      rw [a2] at e1
      cases e1
      obtain ⟨o, ho', _, hk⟩ := ro.has
      rw [ho'] at h1
      cases h1
      rcases hk with ⟨_, z⟩ | ⟨_, z⟩ <;> cases z
  have nopar : ∀ {a : Addr}, c.H0 a ≠ none → (∀ i, c.pa i ≠ some a) → ∀ i, paOf vs args i ≠ some a := by
    intro a h0 hp i hi
    obtain ⟨j, d, _, a2, a3⟩ := par_slot r hv ha hi
    rcases a3 with a3 | a3
    · obtain ⟨q, e1, e2, _⟩ := r.slot j _ a3
      rw [a2] at e1
      cases e1
      exact h0 e2
    · obtain ⟨q, e1, e2, _⟩ := r.slot j _ a3
      rw [a2] at e1
      cases e1
      exact hp j e2
  have hH : ∀ {a : Addr}, c.H0 a ≠ none → (∀ i, c.pa i ≠ some a) → H a ≠ none := by
    intro a h0 hp hn
    exact h0 (r.fresh0 hn)
  -- a slot that is handed over
  have handed : ∀ {j : Nat} {d : D} {p : Addr}, (env[j]? = some (.own d) ∨ env[j]? = some (.par d)) → σ[j]? = some (some (.ref p)) → (es.findIdx? (isSlot j) = none ∧ H' p = H p ∧ G' p = none) ∨ ∃ k, es.findIdx? (isSlot j) = some k ∧ paOf vs args k = some p := by
    intro j d p hj hs
    have hG : G p = none := by
      rcases hj with hj | hj <;> (obtain ⟨q, e1, _, e3, _⟩ := r.slot j _ hj; rw [hs] at e1; cases e1; exact e3)
    have hHp : ∃ o, H p = some o := by
      rcases hj with hj | hj <;> (obtain ⟨q, e1, _, _, ro⟩ := r.slot j _ hj; rw [hs] at e1; cases e1; obtain ⟨o, ho', _⟩ := ro.has; exact ⟨o, ho'⟩)
    cases hf : es.findIdx? (isSlot j) with
    | none =>
      left
      have np : ∀ i, paOf vs args i ≠ some p := by
        intro i hi
        obtain ⟨m, e, a1, a2, a3⟩ := par_slot r hv ha hi
        have := slot_same r hj a3 hs a2
        subst this
        rw [List.findIdx?_eq_none_iff] at hf
        have := hf _ (List.mem_of_getElem? a1)
        simp [isSlot] at this
      obtain ⟨o, ho'⟩ := hHp
      refine ⟨rfl, by rw [ho']; exact f.keep p o ho' np, ?_⟩
      rw [f.gfix p (by rw [ho']; intro z; cases z) np]
      exact hG
    | some k =>
      right
      refine ⟨k, rfl, ?_⟩
      obtain ⟨hk, h1, _⟩ := List.findIdx?_eq_some_iff_getElem.mp hf
      have hes : es[k]? = some (.slot j) := by
        rw [List.getElem?_eq_getElem hk, isSlot_iff h1]
      have hlv : k < vs.length := by
        rw [hv.length]
        exact hk
      have hvk : vs[k]? = some vs[k] := List.getElem?_eq_getElem hlv
      have rd := hv.get hvk hes
      have hw : σ[j]? = some (some vs[k]) := rd
      rw [hs] at hw
      have hvp : vs[k]? = some (.ref p) := by
        rw [hvk]
        exact (Option.some.inj hw).symm
      have hla : k < args.length := by
        rw [← (toArgs_get (i := 0) ha).1]
        exact hk
      have hak : args[k]? = some args[k] := List.getElem?_eq_getElem hla
      obtain ⟨ev, h3, h4⟩ := (toArgs_get ha).2 _ hak
      rw [hes] at h3
      cases h3
      rcases hj with hj | hj
      · have h4 : (match env[j]? with
          | some (.imm d) => some (.imm d)
          | some (.fpar d) => some (.imm d)
          | some (.own d) => some (.par d)
          | some (.par d) => some (.par d)
          | _ => none) = some args[k] := h4
        rw [hj] at h4
        have h4 : some (Slot.par d) = some args[k] := h4
        exact paOf_of (by rw [hak, ← h4]) hvp
      · have h4 : (match env[j]? with
          | some (.imm d) => some (.imm d)
          | some (.fpar d) => some (.imm d)
          | some (.own d) => some (.par d)
          | some (.par d) => some (.par d)
          | _ => none) = some args[k] := h4
        rw [hj] at h4
        have h4 : some (Slot.par d) = some args[k] := h4
        exact paOf_of (by rw [hak, ← h4]) hvp
  -- the slot behind the call
  have slots : ∀ (j : Nat) (s0 : Slot), env[j]? = some s0 → SlotOk c G' H' j σ[j]? (backSlot es args' j s0) ∧ ((∃ d, backSlot es args' j s0 = .own d) → ∃ d, s0 = .own d) ∧ ((∃ d, backSlot es args' j s0 = .par d) → ∃ d, s0 = .par d) ∧ ((∃ d, s0 = .par d ∨ s0 = .fpar d) → ∃ d, backSlot es args' j s0 = .par d ∨ backSlot es args' j s0 = .fpar d) := by
    intro j s0 he
    have so := r.slot j s0 he
    cases s0 with
    | no => exact ⟨trivial, fun ⟨d, z⟩ => (by cases z), fun ⟨d, z⟩ => (by cases z), fun ⟨d, z⟩ => (by rcases z with z | z <;> cases z)⟩
    | imm d =>
      obtain ⟨v, e, rr⟩ := so
      exact ⟨⟨v, e, rr.mono f.le.sub⟩, fun ⟨d, z⟩ => (by cases z), fun ⟨d, z⟩ => (by cases z), fun ⟨d, z⟩ => (by rcases z with z | z <;> cases z)⟩
    | fpar d =>
      obtain ⟨p, e, h1, rr⟩ := so
      exact ⟨⟨p, e, h1, rr.mono f.le.sub⟩, fun ⟨d, z⟩ => (by cases z), fun ⟨d, z⟩ => (by cases z), fun _ => ⟨d, .inr rfl⟩⟩
    | exc x fs =>
      obtain ⟨a, cls, d, e, h1, h2⟩ := so
      exact ⟨⟨a, cls, d, e, h1, XOk.mono f.le h2⟩, fun ⟨d, z⟩ => (by cases z), fun ⟨d, z⟩ => (by cases z), fun ⟨d, z⟩ => (by rcases z with z | z <;> cases z)⟩
    | own d =>
      obtain ⟨p, e, h0, hg, ro⟩ := so
      unfold backSlot
      rcases handed (.inl he) e with ⟨h1, h2, h3⟩ | ⟨k, h1, h2⟩
      · rw [h1]
        exact ⟨⟨p, e, h0, h3, (ro.mono f.le).at h2⟩, fun _ => ⟨d, rfl⟩, fun ⟨d, z⟩ => (by cases z), fun ⟨d, z⟩ => (by rcases z with z | z <;> cases z)⟩
      · rw [h1]
        obtain ⟨_, d', ⟨h3, h4, h5⟩ | ⟨h3, h4⟩⟩ := f.par k p h2
        · simp only [h3]
          exact ⟨⟨p, e, h0, h4, h5⟩, fun _ => ⟨d, rfl⟩, fun ⟨d, z⟩ => (by cases z), fun ⟨d, z⟩ => (by rcases z with z | z <;> cases z)⟩
        · simp only [h3]
          exact ⟨⟨_, e, h4⟩, fun _ => ⟨d, rfl⟩, fun ⟨d, z⟩ => (by cases z), fun ⟨d, z⟩ => (by rcases z with z | z <;> cases z)⟩
    | par d =>
      obtain ⟨p, e, h0, hg, ro⟩ := so
      unfold backSlot
      rcases handed (.inr he) e with ⟨h1, h2, h3⟩ | ⟨k, h1, h2⟩
      · rw [h1]
        exact ⟨⟨p, e, h0, h3, (ro.mono f.le).at h2⟩, fun ⟨d, z⟩ => (by cases z), fun _ => ⟨d, rfl⟩, fun _ => ⟨d, .inl rfl⟩⟩
      · rw [h1]
        obtain ⟨_, d', ⟨h3, h4, h5⟩ | ⟨h3, h4⟩⟩ := f.par k p h2
        · simp only [h3]
          exact ⟨⟨p, e, h0, h4, h5⟩, fun ⟨d, z⟩ => (by cases z), fun _ => ⟨d, rfl⟩, fun _ => ⟨d', .inl rfl⟩⟩
        · simp only [h3]
          exact ⟨⟨_, e, h0, h4⟩, fun ⟨d, z⟩ => (by cases z), fun ⟨d, z⟩ => (by cases z), fun _ => ⟨d', .inr rfl⟩⟩
  have get : ∀ {j : Nat} {s : Slot}, (DL.back es args' env)[j]? = some s → ∃ s0, env[j]? = some s0 ∧ s = backSlot es args' j s0 := by
    intro j s h
    rw [back_get] at h
    cases he : env[j]? with
    | none =>
      rw [he] at h
      cases h
    | some s0 =>
      rw [he] at h
      exact ⟨s0, rfl, (Option.some.inj h).symm⟩
  refine ⟨f.sub, r.g0.trans f.le, fun a h0 hp => ?_, fun a o h0 hp => ?_, fun a ob u hl => ?_, fun i p hp => ⟨(r.pah i p hp).1, ?_⟩, r.pinj, ?_, fun j s h => ?_, fun i j p d e h1 h2 h3 h4 => ?_, fun a o hf => ?_, fun i p hp => ?_⟩
  · rw [f.gfix a (hH h0 hp) (nopar h0 hp)]
    exact r.gfix a h0 hp
  · rcases r.keep a o h0 hp with h | ⟨ob, h⟩
    · exact .inl (f.keep a o h (nopar (by rw [h0]; intro z; cases z) hp))
    · exact .inr ⟨ob, h⟩
  · exact f.keep a _ (r.lks a ob u hl) (nolk hl)
  · by_cases hk : ∃ k, paOf vs args k = some p
    · obtain ⟨k, hk⟩ := hk
      exact (f.par k p hk).1
    · cases hHp : H p with
      | none => exact absurd hHp (r.pah i p hp).2
      | some o =>
        rw [f.keep p o hHp fun k z => hk ⟨k, z⟩]
        intro z
        cases z
  · unfold DL.back
    rw [List.length_mapIdx]
    exact r.len
  · obtain ⟨s0, he, rfl⟩ := get h
    exact (slots j s0 he).1
  · obtain ⟨s1, he1, e1⟩ := get h1
    obtain ⟨s2, he2, e2⟩ := get h2
    obtain ⟨d1, rfl⟩ := (slots i s1 he1).2.1 ⟨d, e1.symm⟩
    obtain ⟨d2, rfl⟩ := (slots j s2 he2).2.1 ⟨e, e2.symm⟩
    exact r.dist i j p d1 d2 he1 he2 h3 h4
  · obtain ⟨h1, h2, h3⟩ := r.frs a o hf
    refine ⟨f.keep a o h1 (nofr hf), ?_, fun i d hi => ?_⟩
    · rw [f.gfix a (by rw [h1]; intro z; cases z) (nofr hf)]
      exact h2
    · rcases hi with hi | hi
      · obtain ⟨s1, he1, e1⟩ := get hi
        obtain ⟨d1, rfl⟩ := (slots i s1 he1).2.1 ⟨d, e1.symm⟩
        exact h3 i d1 (.inl he1)
      · obtain ⟨s1, he1, e1⟩ := get hi
        obtain ⟨d1, rfl⟩ := (slots i s1 he1).2.2.1 ⟨d, e1.symm⟩
        exact h3 i d1 (.inr he1)
  · obtain ⟨d, hd⟩ := r.pars i p hp
    have hs : ∃ s0, env[i]? = some s0 ∧ ∃ d, s0 = .par d ∨ s0 = .fpar d := by
      rcases hd with hd | hd
      · exact ⟨_, hd, d, .inl rfl⟩
      · exact ⟨_, hd, d, .inr rfl⟩
    obtain ⟨s0, he, hs⟩ := hs
    obtain ⟨d', h'⟩ := (slots i s0 he).2.2.2 hs
    refine ⟨d', ?_⟩
    rw [back_get, he]
    rcases h' with h' | h'
    · exact .inl (congrArg some h')
    · exact .inr (congrArg some h')
def callF (np : Nat) (F : List Slot → OutF) (as : List EV) (e1 : Env) : Out EV := match toArgs e1 as with
  | some args => if as.length = np ∧ onceEach e1 as = true then (match F args with
    | .ret (.dat d) args' => .val (.dat d) (back as args' e1)
    | .ret (.new d) args' => .val (.new d) (back as args' e1)
    | .exc x fs args' => .exc x fs (back as args' e1)
    | _ => .stuck) else .stuck
  | none => .stuck
/-- the promise of a def, from a call's arguments -/
theorem call_post {c : Ctx} {G H : Hp} {env : Env} {σ : L2.St} {vs : List V} {as : List EV} {np : Nat} {F : List Slot → OutF} {W : WX} {Q : VK} (hK : c.K = K) (hm : c.mg = mg) (r : Rel c G env σ H) (hv : RDs c G σ vs as) (h : Post c G σ W (PV c σ) Q (callF np F as env)) :
    spD K mg np F vs H Q fun cls d H' => W cls d σ H' := by
  subst hK hm
  unfold callF at h
  split at h
  · rename_i args ha
    split at h
    · rename_i hc
      obtain ⟨hn, ho⟩ := hc
      refine ⟨hv.length.trans hn, G, args, r.sub, args_ok r hv ha ho, ?_⟩
      cases hF : F args with
      | ret ev args' =>
        rw [hF] at h
        cases ev with
        | dat d => exact fun v G' H' f q => h v G' H' (r.back hv ha ho f) f.le q
        | new d =>
          rintro v G' H' f ⟨p, rfl, h0, hg, ro⟩
          refine h _ G' H' (r.back hv ha ho f) f.le ⟨p, rfl, r.fresh0 h0, hg, ro, fun i e hi hs => ?_, r.nofr h0⟩
          rw [back_get] at hi
          cases he : env[i]? with
          | none =>
            rw [he] at hi
            cases hi
          | some s0 =>
            rw [he] at hi
            have hi : backSlot as args' i s0 = .own e := Option.some.inj hi
            have : ∃ d, s0 = .own d := by
              unfold backSlot at hi
              split at hi
              · exact ⟨_, rfl⟩
              · repeat' (split at hi)
                all_goals cases hi
              · exact ⟨e, hi⟩
            obtain ⟨d0, rfl⟩ := this
            obtain ⟨q, e1, _, _, ro1⟩ := r.slot i _ he
            rw [hs] at e1
            cases e1
            obtain ⟨o, ho', _⟩ := ro1.has
            rw [h0] at ho'
            cases ho'
        | slot i => exact h.elim
      | exc x fs args' =>
        rw [hF] at h
        exact fun cls dd G' H' f q => h cls dd G' H' (r.back hv ha ho f) f.le q
      | stuck =>
        rw [hF] at h
        exact h.elim
    · exact h.elim
  · exact h.elim
def eCall (np : Nat) (F : List Slot → OutF) (fa : Env → Out (List EV)) : Env → Out EV := fun env => (fa env).bind fun as e1 => callF np F as e1
theorem sem_call {W : WX} {mx : MX} {np : Nat} {F : List Slot → OutF} {ta : TA} {fa : Env → Out (List EV)} (hmx : mx.1 = mg) (ha : SemA K mx W ta fa) : SemE K mx W (tCallSD (spD K mg np F) [] (fun σ cls d H => W cls d σ H) ta) (eCall np F fa) := by
  intro c G env σ H hK hm r0 Q hQ
  refine ha c G env σ H hK hm r0 _ (post_bind hQ fun as e1 vs G1 H1 r1 l1 p1 q1 => ?_)
  show spD K mg np F (vs ++ []) H1 Q _
  rw [List.append_nil]
  exact call_post hK (by rw [← hmx, ← hm]) r1 p1 q1
end
end DL

namespace DL
open PySem L2 PySem.Spec PyProof.Rows

/-! ### rules by union of kinds -/
section
variable {X : Cx}
def rAddU (K : PySem.W.Frag) : R2 := fun x y H Q => rI0 (fun i j => .int (i + j)) x y H Q ∨ (∃ i j, x = .str i ∧ y = .str j ∧ i.length + j.length ≤ sizeLine ∧ Q (.str (i ++ j)) H) ∨ rCat x y H Q ∨ rCatG K x y H Q
theorem op_addU : OpR X (binaryOp .Add) (rAddU X.K) := by
  intro pins s σ H x y v u Q I rx ry h
  rcases h with h | h | h | h
  · exact op_add pins s σ H x y v u Q I rx ry h
  · exact op_add_str pins s σ H x y v u Q I rx ry h
  · exact op_cat pins s σ H x y v u Q I rx ry h
  · exact op_catG pins s σ H x y v u Q I rx ry h
def rMulU : R2 := fun x y H Q => rI CMul (fun i j => .int (i * j)) x y H Q ∨ rRep x y H Q
theorem op_mulU : OpR X (binaryOp .Mult) rMulU := by
  intro pins s σ H x y v u Q I rx ry h
  rcases h with h | h
  · exact op_mul pins s σ H x y v u Q I rx ry h
  · exact op_rep pins s σ H x y v u Q I rx ry h
def rEqU (K : PySem.W.Frag) : R2 := fun x y H Q => rEq x y H Q ∨ rEqD K x y H Q
theorem op_eqU (hu : X.A.units + 64 < cLine) : OpR X (compareOp .Eq) (rEqU X.K) := by
  intro pins s σ H x y v u Q I rx ry h
  rcases h with h | h
  · exact op_eq pins s σ H x y v u Q I rx ry h
  · exact op_eqD hu pins s σ H x y v u Q I rx ry h
def rNeU (K : PySem.W.Frag) : R2 := fun x y H Q => rNe x y H Q ∨ rNeD K x y H Q
theorem op_neU (hu : X.A.units + 64 < cLine) : OpR X (compareOp .NotEq) (rNeU X.K) := by
  intro pins s σ H x y v u Q I rx ry h
  rcases h with h | h
  · exact op_ne pins s σ H x y v u Q I rx ry h
  · exact op_neD hu pins s σ H x y v u Q I rx ry h
def rIxDct : R2 := fun x y H Q => ∃ a v, x = .ref a ∧ DGet H a y (some v) ∧ Q v H
theorem ix_dct (hu : X.A.units + 1 < cLine) : IxR X rIxDct := by
  intro value slice pins s σ H x y v u Q I rx ry h hs
  obtain ⟨a, z, rfl, g, q⟩ := h
  obtain rfl : v = Value.ref a := rx
  have hT := dict_typeIs I g
  have gi : wpAny (model X.prog X.w) X.A (getItem (.ref a) u) (EP X pins σ Q) X.xe s := d_getItem hu I g ry fun w' s3 I3 rw' => ⟨z, H, I3, rw', q⟩
  unfold subscriptTail
  refine wpAny_bind ?_
  rw [getitemInPython_of_ne hT.not_modules]
  refine wpAny_bind (wpAny_specialOf hT PySem.F.slot_dict_getitem.lookup ?_)
  have fin : wpAny (model X.prog X.w) X.A (subscripted slice false (.ref a) u) (fun r s₃ => wpAny (model X.prog X.w) X.A (letTemporaryGo value (.ref a) r >>= fun _ => pure r) (EP X pins σ Q) X.xe s₃) X.xe s := by
    rw [hs]
    exact wpAny_operating (wpAny_mono gi (fun r s₃ h₃ => wpAny_bind (wpAny_letTemporaryGo (wpAny_pure h₃))) fun _ _ x => x)
  first
    | exact wpAny_pure (wpAny_bind fin)
    | exact wpAny_bind (wpAny_pure (wpAny_bind fin))
    | exact wpAny_bind fin
def rIxU (K : PySem.W.Frag) : R2 := fun x y H Q => rIx K x y H Q ∨ rIxDct x y H Q
theorem ix_U (hu : X.A.units + 1 < cLine) : IxR X (rIxU X.K) := by
  intro value slice pins s σ H x y v u Q I rx ry h hs
  rcases h with h | h
  · exact ix_seq value slice pins s σ H x y v u Q I rx ry h hs
  · exact ix_dct hu value slice pins s σ H x y v u Q I rx ry h hs
theorem pi_seq {tg l : Expr} {tl : TE} (hl : PE X l tl) : PI X tg l (iSeq X.K tl) := by
  refine ⟨fun pins s σ H R I h => ?_⟩
  refine thn (hl.run pins s σ H _ I h) fun v s1 ⟨x, H1, I1, r1, q1⟩ => ?_
  rcases q1 with ⟨a, e, ⟨xs, hq⟩, q⟩ | ⟨a, e, ⟨xs, hq⟩, q⟩
  · subst e
    cases r1
    obtain ⟨its, rv, p, hz⟩ := I1.list hq
    refine wpAny_pyIter_list p.isList ?_
    refine ⟨s1.heap.objs.size, [s1.heap.objs.size], _, _, H1, rfl, I1.kept (t' := s1.toks) fun b o e => Heap.get?_push_of_some _ e, turn_list a _, ⟨_, Heap.get?_push_size _ rfl, rfl, rfl⟩, fun b hb => ?_, q⟩
    have e : b = s1.heap.objs.size := by simpa using hb
    subst e
    exact I1.fpOk (Nat.le_refl _) (I1.hok.fresh (Nat.le_refl _))
  · subst e
    cases r1
    obtain ⟨its, rv, p, hz⟩ := I1.tuple hq
    refine wpAny_pyIter_tuple (show s1.heap.IsTuple a its.toArray from p) ?_
    refine ⟨s1.heap.objs.size, [s1.heap.objs.size], _, _, H1, rfl, I1.kept (t' := s1.toks) fun b o e => Heap.get?_push_of_some _ e, turn_tuple a _, ⟨_, Heap.get?_push_size _ rfl, rfl, rfl⟩, fun b hb => ?_, q⟩
    have e : b = s1.heap.objs.size := by simpa using hb
    subst e
    exact I1.fpOk (Nat.le_refl _) (I1.hok.fresh (Nat.le_refl _))
def rLenU (K : PySem.W.Frag) : List V → Hp → VK → Prop := fun xs H Q => (∃ x n, xs = [x] ∧ LenV K x H n ∧ Q (.int n) H) ∨ (∃ a kvs, xs = [V.ref a] ∧ Rd H a (.dK kvs) ∧ Q (.int kvs.length) H)
theorem call_lenU : CallR X (.builtin "len") (rLenU X.K) := by
  intro pins s σ H xs us Q I r h
  rcases h with h | h
  · exact call_len pins s σ H xs us Q I r h
  · obtain ⟨a, kvs, rfl, ha, q⟩ := h
    obtain ⟨u, rfl, ru⟩ := vals1 r
    cases ru
    exact d_len I ha fun t s' I' => ⟨.int kvs.length, H, I', ⟨t, rfl⟩, q⟩
def rSlU (K : PySem.W.Frag) : V → Option Int → Option Int → Hp → VK → Prop := fun x lo hi H Q => rSlL K x lo hi H Q ∨ rSlG K x lo hi H Q ∨ rSlS x lo hi H Q
theorem sl_U : SlR X (rSlU X.K) := by
  intro pins s σ H x v vl vu lo hi sl Q I rx hs pl pu h
  rcases h with h | h | h
  · exact sl_list pins s σ H x v vl vu lo hi sl Q I rx hs pl pu h
  · exact sl_tupG pins s σ H x v vl vu lo hi sl Q I rx hs pl pu h
  · exact sl_str pins s σ H x v vl vu lo hi sl Q I rx hs pl pu h
end

/-! ### operations by contents -/
section
variable {K : PySem.W.Frag} {mg : MX} {W : WX}
def gI (f : Int → Int → Int) : D → D → Option EV
  | .int i, .int j => some (.dat (.int (f i j)))
  | _, _ => none
def gB (p : Int → Int → Bool) : D → D → Option EV
  | .int i, .int j => some (.dat (.bl (p i j)))
  | _, _ => none
def gIC (C : Int → Int → Prop) [∀ i j, Decidable (C i j)] (f : Int → Int → Int) : D → D → Option EV
  | .int i, .int j => if C i j then some (.dat (.int (f i j))) else none
  | _, _ => none
theorem gI_inv {f : Int → Int → Int} {x y : D} {ev : EV} (h : gI f x y = some ev) : ∃ i j, x = .int i ∧ y = .int j ∧ ev = .dat (.int (f i j)) := by
  unfold gI at h
  split at h
  · cases h
    exact ⟨_, _, rfl, rfl, rfl⟩
  · cases h
theorem gB_inv {f : Int → Int → Bool} {x y : D} {ev : EV} (h : gB f x y = some ev) : ∃ i j, x = .int i ∧ y = .int j ∧ ev = .dat (.bl (f i j)) := by
  unfold gB at h
  split at h
  · cases h
    exact ⟨_, _, rfl, rfl, rfl⟩
  · cases h
theorem os_I {f : Int → Int → Int} : OpSem K (rI0 fun i j => .int (f i j)) (gI f) := by
  intro c G env σ H x y dx dy ev hK r hx hy he Q hQ
  obtain ⟨i, j, rfl, rfl, rfl⟩ := gI_inv he
  exact ⟨i, j, hx.i, hy.i, hQ _ G H r (Gle.refl G) (.int _)⟩
theorem os_B {f : Int → Int → Bool} : OpSem K (rI0 fun i j => .bl (f i j)) (gB f) := by
  intro c G env σ H x y dx dy ev hK r hx hy he Q hQ
  obtain ⟨i, j, rfl, rfl, rfl⟩ := gB_inv he
  exact ⟨i, j, hx.i, hy.i, hQ _ G H r (Gle.refl G) (.bl _)⟩
theorem os_IC {C : Int → Int → Prop} [∀ i j, Decidable (C i j)] {f : Int → Int → Int} : OpSem K (rI C fun i j => .int (f i j)) (gIC C f) := by
  intro c G env σ H x y dx dy ev hK r hx hy he Q hQ
  unfold gIC at he
  split at he
  · rename_i i j
    split at he
    · rename_i hc
      cases he
      exact ⟨i, j, hx.i, hy.i, hc, hQ _ G H r (Gle.refl G) (.int _)⟩
    · cases he
  · cases he
instance (i j : Int) : Decidable (CMul i j) := by unfold CMul; exact inferInstance
instance (i j : Int) : Decidable (CDivN i j) := by unfold CDivN; exact inferInstance
instance (i j : Int) : Decidable (CPow i j) := by unfold CPow; exact inferInstance
def gAddU : D → D → Option EV
  | .int i, .int j => some (.dat (.int (i + j)))
  | .str x, .str y => if small (x.length + y.length) then some (.dat (.str (x ++ y))) else none
  | .lst xs, .lst ys => if small (xs.length + ys.length) then some (.new (.lst (xs ++ ys))) else none
  | .tup xs, .tup ys => if small (xs.length + ys.length) then some (.dat (.tup (xs ++ ys))) else none
  | _, _ => none
theorem os_addU : OpSem K (rAddU K) gAddU := by
  intro c G env σ H x y dx dy ev hK r hx hy he Q hQ
  subst hK
  unfold gAddU at he
  split at he
  · cases he
    exact .inl ⟨_, _, hx.i, hy.i, hQ _ G H r (Gle.refl G) (.int _)⟩
  · rename_i a b
    split at he
    · rename_i hs
      cases he
      exact .inr (.inl ⟨_, _, hx.s, hy.s, of_decide_eq_true hs, hQ _ G H r (Gle.refl G) (.str _)⟩)
    · cases he
  · rename_i as bs
    split at he
    · rename_i hs
      cases he
      obtain ⟨p, xs, rfl, h1, h2⟩ := hx.l r.sub
      obtain ⟨q, ys, rfl, h3, h4⟩ := hy.l r.sub
      refine .inr (.inr (.inl ⟨p, q, xs, ys, rfl, rfl, h1, h3, by rw [h2.length, h4.length]; exact of_decide_eq_true hs, fun l hl => ?_⟩))
      exact hQ _ G _ (r.newT hl) (Gle.refl G) (r.newlst (h2.append h4) hl)
    · cases he
  · rename_i as bs
    split at he
    · rename_i hs
      cases he
      obtain ⟨p, xs, rfl, g1, h1, h2⟩ := hx.t r.sub
      obtain ⟨q, ys, rfl, g3, h3, h4⟩ := hy.t r.sub
      refine .inr (.inr (.inr ⟨p, q, xs, ys, rfl, rfl, h1, h3, by rw [h2.length, h4.length]; exact of_decide_eq_true hs, fun e => ?_, fun _ e => ?_, fun _ _ l o hl ho => ?_⟩))
      · subst e
        cases h2
        exact hQ _ G H r (Gle.refl G) (.tup g3 h4)
      · subst e
        cases h4
        rw [List.append_nil] at hQ
        exact hQ _ G H r (Gle.refl G) (.tup g1 h2)
      · exact hQ _ _ _ (r.new hl) (Gle.upd (r.freshG hl)) (R.newtup ho r (h2.append h4) hl)
    · cases he
  · cases he
def in63 (j : Int) : Bool := decide (j.natAbs < 9223372036854775808)
theorem in63_ok {j : Int} (h : in63 j = true) : -(2 ^ 63) ≤ j ∧ j < 2 ^ 63 := by
  have := of_decide_eq_true h
  omega
def mulOk (i j : Int) : Bool := decide (i.natAbs < 18446744073709551616) || decide (j.natAbs < 18446744073709551616)
theorem mulOk_ok {i j : Int} (h : mulOk i j = true) : CMul i j := by
  unfold mulOk at h
  rw [Bool.or_eq_true] at h
  rcases h with h | h
  · have := of_decide_eq_true h
    exact .inl ⟨by omega, by omega⟩
  · have := of_decide_eq_true h
    exact .inr ⟨by omega, by omega⟩
def gMulU : D → D → Option EV
  | .int i, .int j => if mulOk i j = true then some (.dat (.int (i * j))) else none
  | .lst xs, .int j => if in63 j && small (xs.length * j.toNat) then some (.new (.lst (List.replicate j.toNat xs).flatten)) else none
  | _, _ => none
theorem os_mulU : OpSem K rMulU gMulU := by
  intro c G env σ H x y dx dy ev hK r hx hy he Q hQ
  unfold gMulU at he
  split at he
  · split at he
    · rename_i hc
      cases he
      exact .inl ⟨_, _, hx.i, hy.i, mulOk_ok hc, hQ _ G H r (Gle.refl G) (.int _)⟩
    · cases he
  · rename_i ds j
    split at he
    · rename_i hs
      cases he
      rw [Bool.and_eq_true] at hs
      obtain ⟨hs, h7⟩ := hs
      obtain ⟨h5, h6⟩ := in63_ok hs
      obtain ⟨p, xs, rfl, h1, h2⟩ := hx.l r.sub
      refine .inr ⟨p, j, xs, rfl, hy.i, h1, h5, h6, by rw [h2.length]; exact of_decide_eq_true h7, fun l hl => ?_⟩
      exact hQ _ G _ (r.newT hl) (Gle.refl G) (r.newlst (h2.rep _) hl)
    · cases he
  · cases he

/-! equality -/
mutual
def toPy : D → Option PyData
  | .non => some .none
  | .bl b => some (.bool b)
  | .int i => some (.int i)
  | .str x => some (.str x)
  | .lst xs => (toPys xs).map .list
  | .frl xs => (toPys xs).map .list
  | .tup xs => (toPys xs).map .tuple
  | .dic _ => none
  | .prs _ => none
  | .any _ => none
def toPys : List D → Option (List PyData)
  | [] => some []
  | x :: xs => (toPy x).bind fun a => (toPys xs).bind fun b => some (a :: b)
end
mutual
theorem toPy_dp {H : Hp} : ∀ {d : D} {v : V} {p : PyData}, R K H v d → toPy d = some p → Dp K H v p
  | .non, _, _, h, e => by
    cases h
    have e : some PyData.none = some _ := e
    cases e
    exact .non
  | .bl b, _, _, h, e => by
    cases h
    have e : some (PyData.bool b) = some _ := e
    cases e
    exact .bl b
  | .int i, _, _, h, e => by
    cases h
    have e : some (PyData.int i) = some _ := e
    cases e
    exact .int i
  | .str x, _, _, h, e => by
    cases h
    have e : some (PyData.str x) = some _ := e
    cases e
    exact .str x
  | .lst xs, _, _, h, e => by
    cases h with
    | lst h1 h2 =>
      obtain ⟨ps, hp, e⟩ := Option.map_eq_some_iff.mp (show (toPys xs).map PyData.list = some _ from e)
      subst e
      exact .lst (SqL.of h1) (toPys_dp h2 hp)
  | .frl xs, _, _, h, e => by
    cases h with
    | frl h1 h2 =>
      obtain ⟨ps, hp, e⟩ := Option.map_eq_some_iff.mp (show (toPys xs).map PyData.list = some _ from e)
      subst e
      exact .lst h1 (toPys_dp h2 hp)
  | .tup xs, _, _, h, e => by
    cases h with
    | tup h1 h2 =>
      obtain ⟨ps, hp, e⟩ := Option.map_eq_some_iff.mp (show (toPys xs).map PyData.tuple = some _ from e)
      subst e
      exact .tup h1.1 (toPys_dp h2 hp)
  | .prs _, _, _, _, e => by
    have e : (Option.none : Option PyData) = some _ := e
    cases e
  | .dic _, _, _, _, e => by
    have e : (Option.none : Option PyData) = some _ := e
    cases e
  | .any _, _, _, _, e => by
    have e : (Option.none : Option PyData) = some _ := e
    cases e
theorem toPys_dp {H : Hp} : ∀ {ds : List D} {vs : List V} {ps : List PyData}, RA K H vs ds → toPys ds = some ps → DpAll K H vs ps
  | [], _, _, h, e => by
    cases h
    have e : some [] = some _ := e
    cases e
    exact .nil
  | d :: ds, _, _, h, e => by
    cases h with
    | cons h1 h2 =>
      obtain ⟨a, ha, e⟩ := Option.bind_eq_some_iff.mp (show ((toPy d).bind fun a => (toPys ds).bind fun b => some (a :: b)) = some _ from e)
      obtain ⟨b, hb, e⟩ := Option.bind_eq_some_iff.mp e
      cases e
      exact .cons (toPy_dp h1 ha) (toPys_dp h2 hb)
end
/-- == of contents: texts, ints, bools, None by themselves; the rest as the library's data -/
def eqD : D → D → Option Bool
  | .str x, .str y => some (decide (x = y))
  | .int x, .int y => some (decide (x = y))
  | .bl x, .bl y => some (decide (x = y))
  | .non, .non => some true
  | a, b => (toPy a).bind fun x => (toPy b).bind fun y => if SeqAt.shaped x && SeqAt.shaped y then some (PyData.eqv x y) else none
def gEqU (a b : D) : Option EV := (eqD a b).map fun c => .dat (.bl c)
def gNeU (a b : D) : Option EV := (eqD a b).map fun c => .dat (.bl (!c))
theorem eqD_cases {a b : D} {c : Bool} (h : eqD a b = some c) : (∃ x y, a = .str x ∧ b = .str y ∧ c = decide (x = y)) ∨ (∃ x y, a = .int x ∧ b = .int y ∧ c = decide (x = y)) ∨ (∃ x y, a = .bl x ∧ b = .bl y ∧ c = decide (x = y)) ∨ (a = .non ∧ b = .non ∧ c = true) ∨
    ∃ x y, toPy a = some x ∧ toPy b = some y ∧ SeqAt.shaped x = true ∧ SeqAt.shaped y = true ∧ c = PyData.eqv x y := by
  unfold eqD at h
  split at h
  · cases h
    exact .inl ⟨_, _, rfl, rfl, rfl⟩
  · cases h
    exact .inr (.inl ⟨_, _, rfl, rfl, rfl⟩)
  · cases h
    exact .inr (.inr (.inl ⟨_, _, rfl, rfl, rfl⟩))
  · cases h
    exact .inr (.inr (.inr (.inl ⟨rfl, rfl, rfl⟩)))
  · obtain ⟨x, hx, h⟩ := Option.bind_eq_some_iff.mp h
    obtain ⟨y, hy, h⟩ := Option.bind_eq_some_iff.mp h
    split at h
    · rename_i hs
      cases h
      rw [Bool.and_eq_true] at hs
      exact .inr (.inr (.inr (.inr ⟨x, y, hx, hy, hs.1, hs.2, rfl⟩)))
    · cases h
theorem os_eqU : OpSem K (rEqU K) gEqU := by
  intro c G env σ H x y dx dy ev hK r hx hy he Q hQ
  subst hK
  obtain ⟨b, hb, rfl⟩ := Option.map_eq_some_iff.mp he
  have q := hQ _ G H r (Gle.refl G) (.bl b)
  rcases eqD_cases hb with ⟨x', y', rfl, rfl, rfl⟩ | ⟨x', y', rfl, rfl, rfl⟩ | ⟨x', y', rfl, rfl, rfl⟩ | ⟨rfl, rfl, rfl⟩ | ⟨a, b', h1, h2, h3, h4, rfl⟩
  · rw [hx.s, hy.s]
    exact .inl ⟨rfl, by simpa using q⟩
  · rw [hx.i, hy.i]
    exact .inl ⟨rfl, by simpa using q⟩
  · rw [hx.b, hy.b]
    exact .inl ⟨rfl, by simpa using q⟩
  · rw [hx.n, hy.n]
    exact .inl ⟨rfl, by simpa using q⟩
  · exact .inr ⟨a, b', toPy_dp (hx.r r.sub) h1, toPy_dp (hy.r r.sub) h2, h3, h4, q⟩
theorem os_neU : OpSem K (rNeU K) gNeU := by
  intro c G env σ H x y dx dy ev hK r hx hy he Q hQ
  subst hK
  obtain ⟨b, hb, rfl⟩ := Option.map_eq_some_iff.mp he
  have q := hQ _ G H r (Gle.refl G) (.bl (!b))
  rcases eqD_cases hb with ⟨x', y', rfl, rfl, rfl⟩ | ⟨x', y', rfl, rfl, rfl⟩ | ⟨x', y', rfl, rfl, rfl⟩ | ⟨rfl, rfl, rfl⟩ | ⟨a, b', h1, h2, h3, h4, rfl⟩
  · rw [hx.s, hy.s]
    exact .inl ⟨rfl, by simpa using q⟩
  · rw [hx.i, hy.i]
    exact .inl ⟨rfl, by simpa using q⟩
  · rw [hx.b, hy.b]
    exact .inl ⟨rfl, by simpa using q⟩
  · rw [hx.n, hy.n]
    exact .inl ⟨rfl, by simpa using q⟩
  · exact .inr ⟨a, b', toPy_dp (hx.r r.sub) h1, toPy_dp (hy.r r.sub) h2, h3, h4, q⟩

/-! is None -/
def isNonD : D → Bool
  | .non => true
  | _ => false
theorem S.isNon {G H : Hp} {v : V} {d : D} (h : S K G H v d) (hd : ∀ w, d ≠ .any w) : decide (v = .non) = isNonD d := by
  cases h with
  | dat h =>
    cases h with
    | any => exact absurd rfl (hd _)
    | non => rfl
    | _ => exact decide_eq_false (by intro z; cases z)
  | lst _ _ => exact decide_eq_false (by intro z; cases z)
  | dic _ _ => exact decide_eq_false (by intro z; cases z)
def notAny : D → Bool
  | .any _ => false
  | _ => true
def gIsN (neg : Bool) (a b : D) : Option EV := if notAny a && isNonD b then some (.dat (.bl (if neg then !isNonD a else isNonD a))) else none
theorem gIsN_inv {neg : Bool} {a b : D} {ev : EV} (h : gIsN neg a b = some ev) : (∀ w, a ≠ .any w) ∧ b = .non ∧ ev = .dat (.bl (if neg then !isNonD a else isNonD a)) := by
  unfold gIsN at h
  split at h
  · rename_i hc
    cases h
    rw [Bool.and_eq_true] at hc
    refine ⟨fun v z => ?_, ?_, rfl⟩
    · subst z
      cases hc.1
    · cases b <;> first | rfl | cases hc.2
  · cases h
theorem os_isN : OpSem K (fun x y H Q => y = .non ∧ Q (.bl (decide (x = .non))) H) (gIsN false) := by
  intro c G env σ H x y dx dy ev hK r hx hy he Q hQ
  obtain ⟨h1, rfl, rfl⟩ := gIsN_inv he
  refine ⟨hy.n, ?_⟩
  rw [hx.isNon h1]
  exact hQ _ G H r (Gle.refl G) (.bl _)
theorem os_notN : OpSem K (fun x y H Q => y = .non ∧ Q (.bl (!decide (x = .non))) H) (gIsN true) := by
  intro c G env σ H x y dx dy ev hK r hx hy he Q hQ
  obtain ⟨h1, rfl, rfl⟩ := gIsN_inv he
  refine ⟨hy.n, ?_⟩
  rw [hx.isNon h1]
  exact hQ _ G H r (Gle.refl G) (.bl _)

/-! x in a list or a tuple of flat things -/
def flD : D → Option V
  | .non => some .non
  | .bl b => some (.bl b)
  | .int i => some (.int i)
  | .str x => some (.str x)
  | _ => none
def flDs : List D → Option (List V)
  | [] => some []
  | d :: ds => (flD d).bind fun v => (flDs ds).bind fun vs => some (v :: vs)
theorem flD_ok {G : Hp} {v w : V} {d : D} (h : R K G v d) (e : flD d = some w) : v = w ∧ flatV v = true := by
  cases d <;> cases e <;> cases h <;> exact ⟨rfl, rfl⟩
theorem flDs_ok {G : Hp} : ∀ {ds : List D} {vs ws : List V}, RA K G vs ds → flDs ds = some ws → vs = ws ∧ vs.all flatV = true
  | [], _, _, h, e => by
    cases h
    cases e
    exact ⟨rfl, rfl⟩
  | d :: ds, _, _, h, e => by
    cases h with
    | cons h1 h2 =>
      obtain ⟨w, hw, e⟩ := Option.bind_eq_some_iff.mp e
      obtain ⟨ws, hws, e⟩ := Option.bind_eq_some_iff.mp e
      cases e
      obtain ⟨rfl, f1⟩ := flD_ok h1 hw
      obtain ⟨rfl, f2⟩ := flDs_ok h2 hws
      exact ⟨rfl, by rw [List.all_cons, f1, f2]; rfl⟩
def seqD : D → Option (List D)
  | .lst ds | .frl ds | .tup ds => some ds
  | _ => none
def gIn (neg : Bool) (a b : D) : Option EV := (seqD b).bind fun ds => (flD a).bind fun x => (flDs ds).bind fun vs => some (.dat (.bl (if neg then !inV x vs else inV x vs)))
theorem S.seq {G H : Hp} {v : V} {d : D} {ds : List D} (s : Sub G H) (h : S K G H v d) (e : seqD d = some ds) : ∃ a xs, v = .ref a ∧ (SqL K H a xs ∨ SqT K H a xs) ∧ RA K G xs ds := by
  cases d with
  | lst es =>
    cases e
    obtain ⟨a, xs, e1, h1, h2⟩ := h.l s
    exact ⟨a, xs, e1, .inl (SqL.of h1), h2⟩
  | frl es =>
    cases e
    obtain ⟨a, xs, e1, h1, h2⟩ := h.f s
    exact ⟨a, xs, e1, .inl h1, h2⟩
  | tup es =>
    cases e
    obtain ⟨a, xs, e1, _, h1, h2⟩ := h.t s
    exact ⟨a, xs, e1, .inr h1, h2⟩
  | _ => cases e
theorem S.flat {G H : Hp} {v w : V} {d : D} (h : S K G H v d) (e : flD d = some w) : v = w ∧ flatV v = true := by
  cases h with
  | dat h => exact flD_ok h e
  | lst _ _ => cases e
  | dic _ _ => cases e
theorem os_in {neg : Bool} : OpSem K (rIn K neg) (gIn neg) := by
  intro c G env σ H x y dx dy ev hK r hx hy he Q hQ
  subst hK
  obtain ⟨ds, h1, he⟩ := Option.bind_eq_some_iff.mp he
  obtain ⟨w, h2, he⟩ := Option.bind_eq_some_iff.mp he
  obtain ⟨vs, h3, he⟩ := Option.bind_eq_some_iff.mp he
  cases he
  obtain ⟨a, xs, rfl, hs, ha⟩ := hy.seq r.sub h1
  obtain ⟨rfl, f1⟩ := hx.flat h2
  obtain ⟨rfl, f2⟩ := flDs_ok ha h3
  exact ⟨a, xs, rfl, hs, f1, f2, hQ _ G H r (Gle.refl G) (.bl _)⟩

/-! subscripts -/
def keyD : D → Option Key
  | .int i => some (.inl i)
  | .str x => some (.inr x)
  | _ => none
theorem S.key {G H : Hp} {v : V} {d : D} {k : Key} (h : S K G H v d) (e : keyD d = some k) : v = kV k := by
  cases d with
  | int i =>
    cases e
    exact h.i
  | str x =>
    cases e
    exact h.s
  | _ => cases e
def gIx : D → D → Option EV
  | .lst ds, .int i => (atI ds i).map .dat
  | .frl ds, .int i => (atI ds i).map .dat
  | .tup ds, .int i => (atI ds i).map .dat
  | .str z, .int i => if small z.length then (atI z.cps.toList i).map fun c => .dat (.str ⟨#[c]⟩) else none
  | .dic kvs, k => (keyD k).bind fun k => (valD kvs k).map .dat
  | _, _ => none
theorem RA.atI {G : Hp} {vs : List V} {ds : List D} {i : Int} {d : D} (h : RA K G vs ds) (e : L2.atI ds i = some d) : ∃ v, L2.atI vs i = some v ∧ R K G v d := by
  unfold L2.atI at e ⊢
  obtain ⟨j, hj, e⟩ := Option.bind_eq_some_iff.mp e
  obtain ⟨v, hv, rv⟩ := h.get e
  exact ⟨v, by rw [h.length, hj]; exact hv, rv⟩
theorem RK.val {G : Hp} : ∀ {ds : List (Key × D)} {vs : List (Key × V)} {k : Key}, RK K G vs ds → match valD ds k with
    | some d => ∃ v, valV vs k = some v ∧ R K G v d
    | none => valV vs k = none
  | [], _, k, h => by
    cases h
    exact rfl
  | (k', d) :: ds, _, k, h => by
    cases h with
    | @cons _ v vs _ _ h1 h2 =>
      have ih := RK.val (k := k) h2
      by_cases e : k' = k
      · have e1 : valD ((k', d) :: ds) k = some d := by simp [valD, List.find?_cons, e]
        have e2 : valV ((k', v) :: vs) k = some v := valV_pos e
        rw [e1]
        exact ⟨v, e2, h1⟩
      · have e1 : valD ((k', d) :: ds) k = valD ds k := by simp [valD, List.find?_cons, e]
        have e2 : valV ((k', v) :: vs) k = valV vs k := valV_neg e
        rw [e1, e2]
        exact ih
theorem dget_ok {G H : Hp} {a : Addr} {kvs : List (Key × V)} {ds : List (Key × D)} {k : Key} (h : Rd H a (.dK kvs)) (hk : RK K G kvs ds) : match valD ds k with
    | some d => ∃ v, DGet H a (kV k) (some v) ∧ R K G v d
    | none => DGet H a (kV k) none := by
  have := RK.val (k := k) hk
  cases e : valD ds k with
  | none =>
    rw [e] at this
    exact .inl ⟨kvs, k, h, rfl, this.symm⟩
  | some d =>
    rw [e] at this
    obtain ⟨v, hv, rv⟩ := this
    exact ⟨v, .inl ⟨kvs, k, h, rfl, hv.symm⟩, rv⟩
theorem os_ix : OpSem K (rIxU K) gIx := by
  intro c G env σ H x y dx dy ev hK r hx hy he Q hQ
  subst hK
  unfold gIx at he
  split at he
  · obtain ⟨d, hd, rfl⟩ := Option.map_eq_some_iff.mp he
    obtain ⟨a, xs, rfl, h1, h2⟩ := hx.l r.sub
    obtain ⟨v, hv, rv⟩ := h2.atI hd
    exact .inl (.inl ⟨a, xs, _, v, rfl, hy.i, SqL.of h1, hv, hQ v G H r (Gle.refl G) rv⟩)
  · obtain ⟨d, hd, rfl⟩ := Option.map_eq_some_iff.mp he
    obtain ⟨a, xs, rfl, h1, h2⟩ := hx.f r.sub
    obtain ⟨v, hv, rv⟩ := h2.atI hd
    exact .inl (.inl ⟨a, xs, _, v, rfl, hy.i, h1, hv, hQ v G H r (Gle.refl G) rv⟩)
  · obtain ⟨d, hd, rfl⟩ := Option.map_eq_some_iff.mp he
    obtain ⟨a, xs, rfl, _, h1, h2⟩ := hx.t r.sub
    obtain ⟨v, hv, rv⟩ := h2.atI hd
    exact .inl (.inr (.inl ⟨a, xs, _, v, rfl, hy.i, h1, hv, hQ v G H r (Gle.refl G) rv⟩))
  · split at he
    · rename_i hs
      obtain ⟨z, hz, rfl⟩ := Option.map_eq_some_iff.mp he
      exact .inl (.inr (.inr ⟨_, _, z, hx.s, hy.i, of_decide_eq_true hs, hz, hQ _ G H r (Gle.refl G) (.str _)⟩))
    · cases he
  · obtain ⟨k, hk, he⟩ := Option.bind_eq_some_iff.mp he
    obtain ⟨d, hd, rfl⟩ := Option.map_eq_some_iff.mp he
    obtain ⟨a, kvs, rfl, h1, h2⟩ := hx.d r.sub
    have := dget_ok (k := k) h1 h2
    rw [hd] at this
    obtain ⟨v, g, rv⟩ := this
    rw [hy.key hk]
    exact .inr ⟨a, v, rfl, g, hQ v G H r (Gle.refl G) rv⟩
  · cases he

/-! slices -/
def SemO (K : PySem.W.Frag) (mg : MX) (W : WX) (t : TO) (f : Env → Out (Option Int)) : Prop := ∀ c G env σ H, c.K = K → (c.mg, c.xa) = mg → Rel c G env σ H → ∀ Q : Option Int → Hp → Prop, Post c G σ W (fun _ _ _ a b => a = b) Q (f env) → t σ H Q
def oNone : Env → Out (Option Int) := fun env => .val none env
theorem sem_oNone : SemO K mg W tNoPart oNone := fun c G env σ H hK hm r Q h => h none G H r (Gle.refl G) rfl
def intD : D → Option Int
  | .int i => some i
  | _ => none
theorem S.int {G H : Hp} {v : V} {d : D} {i : Int} (h : S K G H v d) (e : intD d = some i) : v = .int i := by
  cases d <;> cases e
  exact h.i
def oPart (fe : Env → Out EV) : Env → Out (Option Int) := fun env => (fe env).bind fun ev e1 => Out.of (((cont e1 ev).bind intD).map some) e1
theorem sem_oPart {t : TE} {fe : Env → Out EV} (h : SemE K mg W t fe) : SemO K mg W (tPart t) (oPart fe) := by
  intro c G env σ H hK hm r Q hQ
  refine h c G env σ H hK hm r _ (post_bind hQ fun a e1 v G1 H1 r1 l1 p1 q1 => ?_)
  obtain ⟨o, ho, q⟩ := post_of q1
  obtain ⟨i, hi, rfl⟩ := Option.map_eq_some_iff.mp ho
  obtain ⟨d, hd, hi⟩ := Option.bind_eq_some_iff.mp hi
  exact ⟨i, (r1.read p1 hd).int hi, q _ G1 H1 r1 (Gle.refl _) rfl⟩
def cutD (xs : List D) (lo hi : Option Int) : List D := (xs.drop (HT.sIx xs.length 0 lo)).take (HT.sIx xs.length xs.length hi - HT.sIx xs.length 0 lo)
theorem RA.cut {G : Hp} {vs : List V} {ds : List D} (h : RA K G vs ds) (lo hi : Option Int) : RA K G (cutV vs lo hi) (cutD ds lo hi) := by
  unfold cutV cutD
  rw [h.length]
  exact (h.drop _).take _
def gSl : D → Option Int → Option Int → Option EV
  | .lst ds, lo, hi => some (.new (.lst (cutD ds lo hi)))
  | .frl ds, lo, hi => some (.new (.lst (cutD ds lo hi)))
  | .tup ds, lo, hi => some (.dat (.tup (cutD ds lo hi)))
  | .str z, lo, hi => if small z.length then some (.dat (.str (cutS z lo hi))) else none
  | _, _, _ => none
theorem sIx_le (n : Nat) (d : Nat) (hd : d ≤ n) (o : Option Int) : HT.sIx n d o ≤ n := by
  unfold HT.sIx
  cases o with
  | none => exact hd
  | some v =>
    simp only
    split
    · omega
    · exact Nat.min_le_right _ _
theorem cutD_all {ds : List D} {lo hi : Option Int} (h : HT.sIx ds.length 0 lo = 0 ∧ HT.sIx ds.length ds.length hi = ds.length) : cutD ds lo hi = ds := by
  unfold cutD
  rw [h.1, h.2]
  simp
def eSl (fe : Env → Out EV) (fl fh : Env → Out (Option Int)) : Env → Out EV := fun env => (fe env).bind fun a e1 => (fl e1).bind fun lo e2 => (fh e2).bind fun hi e3 => Out.of ((cont e3 a).bind fun d => gSl d lo hi) e3
theorem sem_sl {te : TE} {tl th : TO} {fe : Env → Out EV} {fl fh : Env → Out (Option Int)} (he : SemD K mg W te fe) (hl : SemO K mg W tl fl) (hh : SemO K mg W th fh) : SemE K mg W (tSl (rSlU K) te tl th) (eSl fe fl fh) := by
  intro c G env σ H hK hm r Q hQ
  refine he c G env σ H hK hm r _ (post_bind hQ fun a e1 v G1 H1 r1 l1 p1 q1 => ?_)
  refine hl c G1 e1 σ H1 hK hm r1 _ (post_bind q1 fun lo e2 lo' G2 H2 r2 l2 p2 q2 => ?_)
  obtain rfl : lo = lo' := p2
  refine hh c G2 e2 σ H2 hK hm r2 _ (post_bind q2 fun hi e3 hi' G3 H3 r3 l3 p3 q3 => ?_)
  obtain rfl : hi = hi' := p3
  obtain ⟨ev, hev, q⟩ := post_of q3
  obtain ⟨d, hd, hev⟩ := Option.bind_eq_some_iff.mp hev
  have hs := r3.read (RD.rv (p1.mono (l2.trans l3))) hd
  subst hK
  unfold gSl at hev
  split at hev
  · cases hev
    obtain ⟨p, xs, rfl, h1, h2⟩ := hs.l r3.sub
    exact .inl ⟨p, xs, rfl, SqL.of h1, fun z hz => q _ G3 _ (r3.newT hz) (Gle.refl _) (r3.newlst (h2.cut _ _) hz)⟩
  · cases hev
    obtain ⟨p, xs, rfl, h1, h2⟩ := hs.f r3.sub
    exact .inl ⟨p, xs, rfl, h1, fun z hz => q _ G3 _ (r3.newT hz) (Gle.refl _) (r3.newlst (h2.cut _ _) hz)⟩
  · rename_i ds
    cases hev
    obtain ⟨p, xs, rfl, g1, h1, h2⟩ := hs.t r3.sub
    refine .inr (.inl ⟨p, xs, rfl, h1, fun e => ?_, fun _ z o hz ho => q _ _ _ (r3.new hz) (Gle.upd (r3.freshG hz)) (R.newtup ho r3 (h2.cut _ _) hz)⟩)
    rw [h2.length] at e
    rw [cutD_all e] at q
    exact q _ G3 H3 r3 (Gle.refl _) (.tup g1 h2)
  · split at hev
    · rename_i hz
      cases hev
      exact .inr (.inr ⟨_, hs.s, of_decide_eq_true hz, q _ G3 H3 r3 (Gle.refl _) (.str _)⟩)
    · cases hev
  · cases hev

/-! chained comparisons -/
def eChain (g g' : D → D → Option EV) (fa fb fc : Env → Out EV) : Env → Out EV := fun env => (fa env).bind fun a e1 => (fb e1).bind fun b e2 =>
  (Out.of ((cont e2 a).bind fun x => (cont e2 b).bind fun y => g x y) e2).bind fun z e3 => (Out.of ((cont e3 z).bind blD) e3).bind fun k e4 => if k then (fc e4).bind fun w e5 => Out.of ((cont e5 b).bind fun y => (cont e5 w).bind fun z => g' y z) e5 else .val (.dat (.bl false)) e4
theorem sem_chain {r r' : R2} {g g' : D → D → Option EV} {ta tb tc : TE} {fa fb fc : Env → Out EV} (hr : OpSem K r g) (hr' : OpSem K r' g') (ha : SemD K mg W ta fa) (hb : SemD K mg W tb fb) (hc : SemD K mg W tc fc) : SemE K mg W (tChain r r' ta tb tc) (eChain g g' fa fb fc) := by
  intro c G env σ H hK hm r0 Q hQ
  refine ha c G env σ H hK hm r0 _ (post_bind hQ fun a e1 v G1 H1 r1 l1 p1 q1 => ?_)
  refine hb c G1 e1 σ H1 hK hm r1 _ (post_bind q1 fun b e2 u G2 H2 r2 l2 p2 q2 => ?_)
  cases hz : (cont e2 a).bind fun x => (cont e2 b).bind fun y => g x y with
  | none =>
    rw [hz] at q2
    exact q2.elim
  | some ev =>
    rw [hz] at q2
    obtain ⟨dx, h1, he⟩ := Option.bind_eq_some_iff.mp hz
    obtain ⟨dy, h2, he⟩ := Option.bind_eq_some_iff.mp he
    refine hr c G2 e2 σ H2 v u dx dy ev hK r2 (r2.read (RD.rv (p1.mono l2)) h1) (r2.read (RD.rv p2) h2) he _ fun z G3 H3 r3 l3 p3 => ?_
    obtain ⟨k, rfl, q3⟩ := bl_read r3 p3 (post_le q2 l3)
    refine ⟨k, rfl, ?_⟩
    cases k with
    | false => exact q3 _ G3 H3 r3 (Gle.refl _) (.bl false)
    | true =>
      show tc σ H3 _
      refine hc c G3 e2 σ H3 hK hm r3 _ (post_bind q3 fun w e5 wv G4 H4 r4 l4 p4 q4 => ?_)
      obtain ⟨ev', he', q⟩ := post_of q4
      obtain ⟨dy', h5, he'⟩ := Option.bind_eq_some_iff.mp he'
      obtain ⟨dz, h6, he'⟩ := Option.bind_eq_some_iff.mp he'
      exact hr' c G4 e5 σ H4 u wv dy' dz ev' hK r4 (r4.read (RD.rv (p2.mono (l3.trans l4))) h5) (r4.read (RD.rv p4) h6) he' Q q
end
end DL

namespace DL
open PySem L2 PySem.Spec PyProof.Rows
section
variable {K : PySem.W.Frag} {mg : MX} {W : WX}
/-! ### built-ins -/
def gLenU : List D → Option EV
  | [.lst ds] => some (.dat (.int ds.length))
  | [.frl ds] => some (.dat (.int ds.length))
  | [.tup ds] => some (.dat (.int ds.length))
  | [.dic ds] => some (.dat (.int ds.length))
  | [.str z] => if small z.length then some (.dat (.int z.length)) else none
  | _ => none
theorem cs_lenU : CallSem K (rLenU K) gLenU := by
  intro c G env σ H xs ds ev hK r hs he Q hQ
  subst hK
  unfold gLenU at he
  split at he
  · cases he
    cases hs with
    | cons h1 h2 =>
      cases h2
      obtain ⟨a, vs, rfl, h3, h4⟩ := h1.l r.sub
      exact .inl ⟨_, _, rfl, .inl ⟨vs, SqL.of h3, rfl⟩, by rw [h4.length]; exact hQ _ G H r (Gle.refl G) (.int _)⟩
  · cases he
    cases hs with
    | cons h1 h2 =>
      cases h2
      obtain ⟨a, vs, rfl, h3, h4⟩ := h1.f r.sub
      exact .inl ⟨_, _, rfl, .inl ⟨vs, h3, rfl⟩, by rw [h4.length]; exact hQ _ G H r (Gle.refl G) (.int _)⟩
  · cases he
    cases hs with
    | cons h1 h2 =>
      cases h2
      obtain ⟨a, vs, rfl, _, h3, h4⟩ := h1.t r.sub
      exact .inl ⟨_, _, rfl, .inr ⟨vs, h3, rfl⟩, by rw [h4.length]; exact hQ _ G H r (Gle.refl G) (.int _)⟩
  · cases he
    cases hs with
    | cons h1 h2 =>
      cases h2
      obtain ⟨a, vs, rfl, h3, h4⟩ := h1.d r.sub
      exact .inr ⟨a, vs, rfl, h3, by rw [h4.length]; exact hQ _ G H r (Gle.refl G) (.int _)⟩
  · split at he
    · rename_i hz
      cases he
      cases hs with
      | cons h1 h2 =>
        cases h2
        exact .inl ⟨_, _, rfl, by rw [h1.s]; exact ⟨of_decide_eq_true hz, rfl⟩, hQ _ G H r (Gle.refl G) (.int _)⟩
    · cases he
  · cases he
def gAbs : List D → Option EV := fun ds => match ds with | [.int i] => some (.dat (.int (if i < 0 then -i else i))) | _ => none
def gMax2 : List D → Option EV := fun ds => match ds with | [.int i, .int j] => some (.dat (.int (if j > i then j else i))) | _ => none
def gMin2 : List D → Option EV := fun ds => match ds with | [.int i, .int j] => some (.dat (.int (if j < i then j else i))) | _ => none
theorem cs_abs : CallSem K (fun xs H Q => ∃ i, xs = [.int i] ∧ Q (.int (if i < 0 then -i else i)) H) gAbs := by
  intro c G env σ H xs ds ev hK r hs he Q hQ
  unfold gAbs at he
  split at he
  · cases he
    cases hs with
    | cons h1 h2 =>
      cases h2
      exact ⟨_, by rw [h1.i], hQ _ G H r (Gle.refl G) (.int _)⟩
  · cases he
theorem cs_max2 : CallSem K (fun xs H Q => ∃ i j, xs = [.int i, .int j] ∧ Q (.int (if j > i then j else i)) H) gMax2 := by
  intro c G env σ H xs ds ev hK r hs he Q hQ
  unfold gMax2 at he
  split at he
  · cases he
    cases hs with
    | cons h1 h2 =>
      cases h2 with
      | cons h3 h4 =>
        cases h4
        exact ⟨_, _, by rw [h1.i, h3.i], hQ _ G H r (Gle.refl G) (.int _)⟩
  · cases he
theorem cs_min2 : CallSem K (fun xs H Q => ∃ i j, xs = [.int i, .int j] ∧ Q (.int (if j < i then j else i)) H) gMin2 := by
  intro c G env σ H xs ds ev hK r hs he Q hQ
  unfold gMin2 at he
  split at he
  · cases he
    cases hs with
    | cons h1 h2 =>
      cases h2 with
      | cons h3 h4 =>
        cases h4
        exact ⟨_, _, by rw [h1.i, h3.i], hQ _ G H r (Gle.refl G) (.int _)⟩
  · cases he
def intsD : List D → Option (List Int)
  | [] => some []
  | d :: ds => (intD d).bind fun i => (intsD ds).bind fun r => some (i :: r)
theorem intsD_eq : ∀ {ds : List D} {ns : List Int}, intsD ds = some ns → ds = ns.map D.int
  | [], _, e => by
    cases e
    rfl
  | d :: ds, _, e => by
    obtain ⟨i, hi, e⟩ := Option.bind_eq_some_iff.mp e
    obtain ⟨r, hr, e⟩ := Option.bind_eq_some_iff.mp e
    cases e
    rw [intsD_eq hr]
    cases d <;> cases hi
    rfl
def blsD : List D → Option (List Bool)
  | [] => some []
  | d :: ds => (blD d).bind fun i => (blsD ds).bind fun r => some (i :: r)
theorem blsD_eq : ∀ {ds : List D} {ns : List Bool}, blsD ds = some ns → ds = ns.map D.bl
  | [], _, e => by
    cases e
    rfl
  | d :: ds, _, e => by
    obtain ⟨i, hi, e⟩ := Option.bind_eq_some_iff.mp e
    obtain ⟨r, hr, e⟩ := Option.bind_eq_some_iff.mp e
    cases e
    rw [blsD_eq hr, blD_eq hi]
    rfl
def strD : D → Option Str
  | .str x => some x
  | _ => none
def strsD : List D → Option (List Str)
  | [] => some []
  | d :: ds => (strD d).bind fun i => (strsD ds).bind fun r => some (i :: r)
theorem strsD_eq : ∀ {ds : List D} {ns : List Str}, strsD ds = some ns → ds = ns.map D.str
  | [], _, e => by
    cases e
    rfl
  | d :: ds, _, e => by
    obtain ⟨i, hi, e⟩ := Option.bind_eq_some_iff.mp e
    obtain ⟨r, hr, e⟩ := Option.bind_eq_some_iff.mp e
    cases e
    rw [strsD_eq hr]
    cases d <;> cases hi
    rfl
def lstD : List D → Option (List D)
  | [.lst ds] => some ds
  | _ => none
theorem lst_arg {c : Ctx} {G H : Hp} {env : Env} {σ : L2.St} {xs : List V} {ds es : List D} (r : Rel c G env σ H) (hs : Paired (S c.K G H) xs ds) (e : lstD ds = some es) : ∃ a vs, xs = [.ref a] ∧ H a = some (.lst vs) ∧ RA c.K G vs es := by
  unfold lstD at e
  split at e
  · cases e
    cases hs with
    | cons h1 h2 =>
      cases h2
      obtain ⟨a, vs, rfl, h3, h4⟩ := h1.l r.sub
      exact ⟨a, vs, rfl, h3, h4⟩
  · cases e
def gSum : List D → Option EV := fun ds => (lstD ds).bind fun es => (intsD es).bind fun ns => some (.dat (.int ns.sum))
def gAny : List D → Option EV := fun ds => (lstD ds).bind fun es => (blsD es).bind fun ns => some (.dat (.bl (ns.any id)))
def gAll : List D → Option EV := fun ds => (lstD ds).bind fun es => (blsD es).bind fun ns => some (.dat (.bl (ns.all id)))
theorem cs_sum : CallSem K (rSum K) gSum := by
  intro c G env σ H xs ds ev hK r hs he Q hQ
  subst hK
  obtain ⟨es, h1, he⟩ := Option.bind_eq_some_iff.mp he
  obtain ⟨ns, h2, he⟩ := Option.bind_eq_some_iff.mp he
  cases he
  obtain ⟨a, vs, rfl, h3, h4⟩ := lst_arg r hs h1
  rw [intsD_eq h2] at h4
  rw [h4.ints] at h3
  exact ⟨a, ns, rfl, SqL.of h3, hQ _ G H r (Gle.refl G) (.int _)⟩
theorem cs_any : CallSem K (rAny K) gAny := by
  intro c G env σ H xs ds ev hK r hs he Q hQ
  subst hK
  obtain ⟨es, h1, he⟩ := Option.bind_eq_some_iff.mp he
  obtain ⟨ns, h2, he⟩ := Option.bind_eq_some_iff.mp he
  cases he
  obtain ⟨a, vs, rfl, h3, h4⟩ := lst_arg r hs h1
  rw [blsD_eq h2] at h4
  rw [h4.bls] at h3
  exact ⟨a, ns, rfl, SqL.of h3, hQ _ G H r (Gle.refl G) (.bl _)⟩
theorem cs_all : CallSem K (rAll K) gAll := by
  intro c G env σ H xs ds ev hK r hs he Q hQ
  subst hK
  obtain ⟨es, h1, he⟩ := Option.bind_eq_some_iff.mp he
  obtain ⟨ns, h2, he⟩ := Option.bind_eq_some_iff.mp he
  cases he
  obtain ⟨a, vs, rfl, h3, h4⟩ := lst_arg r hs h1
  rw [blsD_eq h2] at h4
  rw [h4.bls] at h3
  exact ⟨a, ns, rfl, SqL.of h3, hQ _ G H r (Gle.refl G) (.bl _)⟩
def rListOf (K : PySem.W.Frag) : List V → Hp → VK → Prop := fun xs H Q => ∃ p ys, xs = [.ref p] ∧ (SqL K H p ys ∨ SqT K H p ys) ∧ ∀ l, H l = none → Q (.ref l) (upd H l (.lst ys))
def oneD : List D → Option D
  | [d] => some d
  | _ => none
theorem one_arg {c : Ctx} {G H : Hp} {xs : List V} {ds : List D} {d : D} (hs : Paired (S c.K G H) xs ds) (e : oneD ds = some d) : ∃ v, xs = [v] ∧ S c.K G H v d := by
  unfold oneD at e
  split at e
  · cases e
    cases hs with
    | cons h1 h2 =>
      cases h2
      exact ⟨_, rfl, h1⟩
  · cases e
def gList : List D → Option EV := fun ds => (oneD ds).bind fun d => (seqD d).bind fun es => some (.new (.lst es))
def gTuple : List D → Option EV := fun ds => (oneD ds).bind fun d => (seqD d).bind fun es => some (.dat (.tup es))
theorem cs_list : CallSem K (rListOf K) gList := by
  intro c G env σ H xs ds ev hK r hs he Q hQ
  subst hK
  obtain ⟨d, h1, he⟩ := Option.bind_eq_some_iff.mp he
  obtain ⟨es, h2, he⟩ := Option.bind_eq_some_iff.mp he
  cases he
  obtain ⟨v, rfl, hv⟩ := one_arg hs h1
  obtain ⟨a, vs, rfl, h3, h4⟩ := hv.seq r.sub h2
  exact ⟨a, vs, rfl, h3, fun l hl => hQ _ G _ (r.newT hl) (Gle.refl G) (r.newlst h4 hl)⟩
theorem cs_tuple : CallSem K (rTupOf K) gTuple := by
  intro c G env σ H xs ds ev hK r hs he Q hQ
  subst hK
  obtain ⟨d, h1, he⟩ := Option.bind_eq_some_iff.mp he
  obtain ⟨es, h2, he⟩ := Option.bind_eq_some_iff.mp he
  cases he
  obtain ⟨v, rfl, hv⟩ := one_arg hs h1
  cases d with
  | tup es' =>
    cases h2
    obtain ⟨a, vs, rfl, g3, h3, h4⟩ := hv.t r.sub
    exact ⟨a, vs, rfl, .inr ⟨h3, hQ _ G H r (Gle.refl G) (.tup g3 h4)⟩⟩
  | lst es' =>
    cases h2
    obtain ⟨a, vs, rfl, h3, h4⟩ := hv.l r.sub
    exact ⟨a, vs, rfl, .inl ⟨SqL.of h3, fun l o hl ho => hQ _ _ _ (r.new hl) (Gle.upd (r.freshG hl)) (R.newtup ho r h4 hl)⟩⟩
  | frl es' =>
    cases h2
    obtain ⟨a, vs, rfl, h3, h4⟩ := hv.f r.sub
    exact ⟨a, vs, rfl, .inl ⟨h3, fun l o hl ho => hQ _ _ _ (r.new hl) (Gle.upd (r.freshG hl)) (R.newtup ho r h4 hl)⟩⟩
  | _ => cases h2
/-! isinstance of built-in kinds -/
def isiD (T : String) : D → Option Bool
  | .non => kitB "NoneType" T
  | .bl _ => kitB "bool" T
  | .int _ => kitB "int" T
  | .str _ => kitB "str" T
  | .lst _ | .frl _ => kitB "list" T
  | .tup _ => kitB "tuple" T
  | .prs _ => none
  | .dic _ => kitB "dict" T
  | .any _ => none
theorem tyx_rd {H : Hp} {a : Addr} {xs : List V} (h : SqL K H a xs) : TyX K H (.ref a) (.type "list") := by
  rcases h with (h | ⟨o, h⟩) | ⟨o, its, n, h1, h2, _⟩
  · exact .base (.lst h)
  · exact .base (.frz h)
  · exact .kList h1 h2
theorem tyx_rt {H : Hp} {a : Addr} {xs : List V} (h : SqT K H a xs) : TyX K H (.ref a) (.type "tuple") := by
  rcases h with (h | ⟨o, h⟩) | ⟨o, its, n, h1, h2, _⟩
  · exact .base (.tup h)
  · exact .fTuple h
  · exact .kTuple h1 h2
def gIsi : List D → Option EV
  | [d, .any (.ty T)] => (isiD T d).map fun b => .dat (.bl b)
  | _ => none
theorem cs_isi : CallSem K (rIsi K) gIsi := by
  intro c G env σ H xs ds ev hK r hs he Q hQ
  subst hK
  unfold gIsi at he
  split at he
  · rename_i d T
    obtain ⟨b, hb, rfl⟩ := Option.map_eq_some_iff.mp he
    cases hs with
    | cons h1 h2 =>
      cases h2 with
      | cons h3 h4 =>
        cases h4
        have hv := (h3.r r.sub)
        cases hv
        have q := hQ _ G H r (Gle.refl G) (.bl b)
        cases d with
        | non =>
          rw [h1.n]
          exact ⟨_, _, _, _, b, rfl, .ty T, .base .non, kit_ty hb, q⟩
        | bl x =>
          rw [h1.b]
          exact ⟨_, _, _, _, b, rfl, .ty T, .base (.bl x), kit_ty hb, q⟩
        | int x =>
          rw [h1.i]
          exact ⟨_, _, _, _, b, rfl, .ty T, .base (.int x), kit_ty hb, q⟩
        | str x =>
          rw [h1.s]
          exact ⟨_, _, _, _, b, rfl, .ty T, .base (.str x), kit_ty hb, q⟩
        | lst x =>
          obtain ⟨a, vs, rfl, h5, h6⟩ := h1.l r.sub
          exact ⟨_, _, _, _, b, rfl, .ty T, tyx_rd (SqL.of h5), kit_ty hb, q⟩
        | frl x =>
          obtain ⟨a, vs, rfl, h5, h6⟩ := h1.f r.sub
          exact ⟨_, _, _, _, b, rfl, .ty T, tyx_rd h5, kit_ty hb, q⟩
        | tup x =>
          obtain ⟨a, vs, rfl, _, h5, h6⟩ := h1.t r.sub
          exact ⟨_, _, _, _, b, rfl, .ty T, tyx_rt h5, kit_ty hb, q⟩
        | dic x =>
          obtain ⟨a, vs, rfl, h5, h6⟩ := h1.d r.sub
          rcases h5 with h5 | ⟨o, h5⟩
          · exact ⟨_, _, _, _, b, rfl, .ty T, .base (.dK h5), kit_ty hb, q⟩
          · exact ⟨_, _, _, _, b, rfl, .ty T, .fDict h5, kit_ty hb, q⟩
        | prs x => cases hb
        | any x => cases hb
  · cases he

/-! ### methods that change a list -/
def MtL (K : PySem.W.Frag) (r : V → List V → Hp → VK → Prop) (g : List D → List D → Option (List D × D)) : Prop := ∀ (G H : Hp) (l : Addr) (vs ws : List V) (ds es ds' : List D) (d : D), H l = some (.lst vs) → RA K G vs ds → RA K G ws es → g ds es = some (ds', d) →
  ∃ vs' v, RA K G vs' ds' ∧ R K G v d ∧ ∀ Q : VK, Q v (upd H l (.lst vs')) → r (.ref l) ws H Q
def ownL (env : Env) (i : Nat) : Option (List D) := match env[i]? with
  | some (.own (.lst ds)) => some ds
  | some (.par (.lst ds)) => some ds
  | _ => none
theorem Rel.ownL {c : Ctx} {G H : Hp} {env : Env} {σ : L2.St} (r : Rel c G env σ H) {i : Nat} {v : V} {ds : List D} (hw : σ[i]? = some (some v)) (e : ownL env i = some ds) : ∃ p xs, v = .ref p ∧ H p = some (.lst xs) ∧ RA c.K G xs ds := by
  unfold DL.ownL at e
  split at e
  · rename_i ds' he
    cases e
    obtain ⟨p, e1, _, _, xs, h1, h2⟩ := r.slot i _ he
    rw [hw] at e1
    cases e1
    exact ⟨p, xs, rfl, h1, h2⟩
  · rename_i ds' he
    cases e
    obtain ⟨p, e1, _, _, xs, h1, h2⟩ := r.slot i _ he
    rw [hw] at e1
    cases e1
    exact ⟨p, xs, rfl, h1, h2⟩
  · cases e
def slotD : EV → Option Nat
  | .slot i => some i
  | _ => none
theorem slotD_eq {ev : EV} {i : Nat} (h : slotD ev = some i) : ev = .slot i := by
  cases ev <;> cases h
  rfl
def eBmL (g : List D → List D → Option (List D × D)) (fo : Env → Out EV) (fa : Env → Out (List EV)) : Env → Out EV := fun env => (fo env).bind fun o e1 => (Out.of ((slotD o).bind fun i => (ownL e1 i).map fun _ => i) e1).bind fun i e1 => (fa e1).bind fun as e2 =>
  (Out.of (freezes e2 as) e2).bind fun x _ => Out.bind (Out.of ((ownL x.2 i).bind fun ds => (g ds x.1).bind fun y => (setOwn x.2 i (.lst y.1)).map fun e4 => (y.2, e4)) x.2) fun z _ => .val (.dat z.1) z.2
theorem sem_bmL {r : V → List V → Hp → VK → Prop} {g : List D → List D → Option (List D × D)} {to : TE} {ta : TA} {fo : Env → Out EV} {fa : Env → Out (List EV)} (hr : MtL K r g) (ho : SemD K mg W to fo) (ha : SemA K mg W ta fa) : SemD K mg W (tBM K "list" r to ta) (eBmL g fo fa) := by
  intro c G env σ H hK hm r0 Q hQ
  subst hK
  refine ho c G env σ H rfl hm r0 _ (post_bind hQ fun o e1 v G1 H1 r1 l1 p1 q1 => ?_)
  cases hi : (slotD o).bind fun i => (ownL e1 i).map fun _ => i with
  | none =>
    rw [hi] at q1
    exact q1.elim
  | some i =>
    rw [hi] at q1
    obtain ⟨i', hi1, hi2⟩ := Option.bind_eq_some_iff.mp hi
    obtain ⟨ds0, hd0, rfl⟩ := Option.map_eq_some_iff.mp hi2
    have ho := slotD_eq hi1
    subst ho
    have hw : σ[i']? = some (some v) := p1
    obtain ⟨p, xs0, rfl, h0, _⟩ := r1.ownL hw hd0
    refine ⟨.inl ⟨rfl, xs0, SqL.of h0⟩, ?_⟩
    refine ha c G1 e1 σ H1 rfl hm r1 _ (post_bind q1 fun as e2 vs G2 H2 r2 l2 p2 q2 => ?_)
    cases hf : freezes e2 as with
    | none =>
      rw [hf] at q2
      exact q2.elim
    | some x =>
      obtain ⟨es, e3⟩ := x
      rw [hf] at q2
      obtain ⟨G3, r3, l3, p3⟩ := r2.freezes p2 hf
      cases hz : (ownL e3 i').bind fun ds => (g ds es).bind fun y => (setOwn e3 i' (.lst y.1)).map fun e4 => (y.2, e4) with
      | none =>
        have q2 : Post c G2 σ W (PD c σ) Q (Out.bind (Out.of ((ownL e3 i').bind fun ds => (g ds es).bind fun y => (setOwn e3 i' (.lst y.1)).map fun e4 => (y.2, e4)) e3) fun z _ => .val (.dat z.1) z.2) := q2
        rw [hz] at q2
        exact q2.elim
      | some z =>
        obtain ⟨d, e4⟩ := z
        have q2 : Post c G2 σ W (PD c σ) Q (Out.bind (Out.of ((ownL e3 i').bind fun ds => (g ds es).bind fun y => (setOwn e3 i' (.lst y.1)).map fun e4 => (y.2, e4)) e3) fun z _ => .val (.dat z.1) z.2) := q2
        rw [hz] at q2
        have q2 : Post c G2 σ W (PD c σ) Q (.val (.dat d) e4) := q2
        obtain ⟨ds, hd, hz⟩ := Option.bind_eq_some_iff.mp hz
        obtain ⟨⟨ds', d'⟩, hg, hz⟩ := Option.bind_eq_some_iff.mp hz
        obtain ⟨e5, hs, hz⟩ := Option.map_eq_some_iff.mp hz
        cases hz
        obtain ⟨p', xs, e1', h1, h2⟩ := r3.ownL hw hd
        cases e1'
        obtain ⟨xs', v', h3, h4, h5⟩ := hr G3 H2 p xs vs ds es ds' d' h1 h2 p3 hg
        refine h5 Q (q2 v' G3 _ (r3.mutate hw hs fun H' hH' => ⟨xs', hH', h3⟩) l3 h4)
def gAppend : List D → List D → Option (List D × D) := fun ds es => match es with | [e] => if ds.length < sizeLine then some (ds ++ [e], .non) else none | _ => none
theorem mtl_append : MtL K rAppend gAppend := by
  intro G H l vs ws ds es ds' d hl hv hw hg
  unfold gAppend at hg
  split at hg
  · split at hg
    · rename_i e hlen
      cases hg
      cases hw with
      | @cons w _ _ _ h1 h2 =>
        cases h2
        exact ⟨vs ++ [w], .non, hv.append (.cons h1 .nil), .non, fun Q q => ⟨l, vs, w, rfl, rfl, hl, by rw [hv.length]; exact hlen, q⟩⟩
    · cases hg
  · cases hg
def gPopAt : List D → List D → Option (List D × D) := fun ds es => match es with | [.int i] => if in63 i = true then (seqIndex? i ds.length).bind fun k => (ds[k]?).map fun d => (ds.eraseIdx k, d) else none | _ => none
theorem mtl_popAt : MtL K rPopAt gPopAt := by
  intro G H l vs ws ds es ds' d hl hv hw hg
  unfold gPopAt at hg
  split at hg
  · rename_i i
    split at hg
    · rename_i h63
      obtain ⟨k, hk, hg⟩ := Option.bind_eq_some_iff.mp hg
      obtain ⟨d0, hd0, hg⟩ := Option.map_eq_some_iff.mp hg
      cases hg
      obtain ⟨v, h1, h2⟩ := hv.get hd0
      have h63 := in63_ok h63
      cases hw with
      | cons h3 h4 =>
        cases h4
        cases h3
        exact ⟨vs.eraseIdx k, v, hv.eraseIdx k, h2, fun Q q => ⟨l, vs, i, k, v, rfl, rfl, hl, h63.1, h63.2, by rw [hv.length]; exact hk, h1, q⟩⟩
    · cases hg
  · cases hg
def gInsert : List D → List D → Option (List D × D) := fun ds es => match es with | [.int i, e] => if ds.length < sizeLine ∧ 0 ≤ i ∧ i.natAbs < 9223372036854775808 then some (ds.take i.toNat ++ [e] ++ ds.drop i.toNat, .non) else none | _ => none
theorem mtl_insert : MtL K (fun x vs H Q => ∃ (l : Addr) (xs : List V) (i : Int) (y : V), x = .ref l ∧ vs = [.int i, y] ∧ H l = some (.lst xs) ∧ xs.length < sizeLine ∧ 0 ≤ i ∧ i < 2 ^ 63 ∧ Q .non (upd H l (.lst (xs.take i.toNat ++ [y] ++ xs.drop i.toNat))))
    gInsert := by
  intro G H l vs ws ds es ds' d hl hv hw hg
  unfold gInsert at hg
  split at hg
  · rename_i i e
    split at hg
    · rename_i hc
      cases hg
      cases hw with
      | cons h3 h4 =>
        cases h3
        cases h4 with
        | @cons w _ _ _ h5 h6 =>
          cases h6
          exact ⟨_, .non, ((hv.take _).append (.cons h5 .nil)).append (hv.drop _), .non, fun Q q => ⟨l, vs, i, w, rfl, rfl, hl, by rw [hv.length]; exact hc.1, hc.2.1, (by have := hc.2.2; omega), q⟩⟩
    · cases hg
  · cases hg
/-! xs[i] = v of an own list -/
def gSetL (fo fi : Env → Out EV) : EV → Env → OutS := fun ev env => match freeze env ev with
  | none => .stuck
  | some (d, env) => (fo env).toS fun o e1 => (fi e1).toS fun i e2 => OutS.of ((slotD o).bind fun j => (ownL e2 j).bind fun ds => (cont e2 i).bind intD |>.bind fun k => (ixN ds.length k).bind fun n => setOwn e2 j (.lst (ds.set n d)))
theorem sem_gSetL {to ti : TE} {fo fi : Env → Out EV} (ho : SemD K mg W to fo) (hi : SemD K mg W ti fi) : SemG K mg W (gSub to ti rSetL) (gSetL fo fi) := by
  intro c G env σ H v ev Q hK hm r p h
  unfold gSetL at h
  split at h
  · exact h.elim
  · rename_i d env1 hf
    obtain ⟨G1, r1, l1, p1⟩ := r.freeze p hf
    refine ho c G1 env1 σ H hK hm r1 _ (post_toS (h.imp l1 (fun _ _ z => z) (fun _ _ z => z) (fun _ _ z => z) fun _ _ z => z) fun o e1 ov G2 H2 r2 l2 p2 q2 => ?_)
    refine hi c G2 e1 σ H2 hK hm r2 _ (post_toS q2 fun i e2 iv G3 H3 r3 l3 p3 q3 => ?_)
    cases hz : (slotD o).bind fun j => (ownL e2 j).bind fun ds => (cont e2 i).bind intD |>.bind fun k => (ixN ds.length k).bind fun n => setOwn e2 j (.lst (ds.set n d)) with
    | none =>
      rw [hz] at q3
      exact q3.elim
    | some e4 =>
      rw [hz] at q3
      obtain ⟨j, hj, hz⟩ := Option.bind_eq_some_iff.mp hz
      obtain ⟨ds, hd, hz⟩ := Option.bind_eq_some_iff.mp hz
      obtain ⟨k, hk, hz⟩ := Option.bind_eq_some_iff.mp hz
      obtain ⟨n, hn, hset⟩ := Option.bind_eq_some_iff.mp hz
      obtain ⟨di, hdi, hk⟩ := Option.bind_eq_some_iff.mp hk
      have := slotD_eq hj
      subst this
      have hw : σ[j]? = some (some ov) := p2
      obtain ⟨q, xs, rfl, h1, h2⟩ := r3.ownL hw hd
      refine ⟨q, xs, k, n, rfl, (r3.read (RD.rv p3) hdi).int hk, h1, by rw [h2.length]; exact hn, ?_⟩
      have rv : R c.K G3 v d := p1.mono (l2.trans l3).sub
      exact q3 σ G3 _ (r3.mutate hw hset fun H' hH' => ⟨xs.set n v, hH', h2.set n rv⟩) (Gle.refl _)
end
end DL

namespace DL
open PySem L2 PySem.Spec PyProof.Rows
section
variable {K : PySem.W.Frag} {mg : MX} {W : WX}
theorem pt_tr {X : Cx} {a : Expr} {ta : TE} (ha : PE X a ta) (he : ∀ whole, isTrue a X.env whole = (do let v ← whole; standAt a.pos; holding [v] (truthy v)) := by intro _; rfl) : L2.PT X a (tTr X.K ta) := pt_truth ha he
/-! sep.join(texts) -/
def eM1 (g : D → D → Option EV) (fo fe : Env → Out EV) : Env → Out EV := fun env => (fo env).bind fun o e1 => (Out.of ((cont e1 o).bind strD) e1).bind fun _ e1 => (fe e1).bind fun a e2 => Out.of ((cont e2 o).bind fun x => (cont e2 a).bind fun y => g x y) e2
def rJoin (K : PySem.W.Frag) : V → List V → Hp → VK → Prop := fun x xs H Q => ∃ a p, ∃ ys : List Str, x = .str a ∧ xs = [.ref p] ∧ (SqL K H p (ys.map V.str) ∨ SqT K H p (ys.map V.str)) ∧ (ys.map (·.length)).sum + ys.length * a.length ≤ 16777216 ∧ Q (.str (Txt.join a ys)) H
def MtS1 (K : PySem.W.Frag) (r : V → List V → Hp → VK → Prop) (g : D → D → Option EV) : Prop := ∀ c G env σ H x y dx dy ev, c.K = K → Rel c G env σ H → S c.K G H x dx → S c.K G H y dy → g dx dy = some ev →
  ∀ Q : VK, (∀ v G' H', Rel c G' env σ H' → Gle G G' → RV c G' env σ H' v ev → Q v H') → r x [y] H Q
theorem S.str {G H : Hp} {v : V} {d : D} {x : Str} (h : S K G H v d) (e : strD d = some x) : v = .str x := by
  cases d <;> cases e
  exact h.s
theorem sem_m1 {r : V → List V → Hp → VK → Prop} {g : D → D → Option EV} {to te : TE} {fo fe : Env → Out EV} (hr : MtS1 K r g) (ho : SemD K mg W to fo) (he : SemD K mg W te fe) : SemE K mg W (tM1 r to te) (eM1 g fo fe) := by
  intro c G env σ H hK hm r0 Q hQ
  refine ho c G env σ H hK hm r0 _ (post_bind hQ fun o e1 v G1 H1 r1 l1 p1 q1 => ?_)
  cases hs : (cont e1 o).bind strD with
  | none =>
    rw [hs] at q1
    exact q1.elim
  | some x =>
    rw [hs] at q1
    obtain ⟨d, hd, hs⟩ := Option.bind_eq_some_iff.mp hs
    refine ⟨⟨x, (r1.read (RD.rv p1) hd).str hs⟩, ?_⟩
    refine he c G1 e1 σ H1 hK hm r1 _ (post_bind q1 fun a e2 u G2 H2 r2 l2 p2 q2 => ?_)
    obtain ⟨ev, hev, q⟩ := post_of q2
    obtain ⟨dx, h1, hev⟩ := Option.bind_eq_some_iff.mp hev
    obtain ⟨dy, h2, hev⟩ := Option.bind_eq_some_iff.mp hev
    exact hr c G2 e2 σ H2 v u dx dy ev hK r2 (r2.read (RD.rv (p1.mono l2)) h1) (r2.read (RD.rv p2) h2) hev Q q
def gJoin (a b : D) : Option EV := (strD a).bind fun s => (seqD b).bind fun ds => (strsD ds).bind fun ys => if (ys.map (·.length)).sum + ys.length * s.length ≤ 16777216 then some (.dat (.str (Txt.join s ys))) else none
theorem ms_join : MtS1 K (rJoin K) gJoin := by
  intro c G env σ H x y dx dy ev hK r hx hy he Q hQ
  subst hK
  obtain ⟨s, h1, he⟩ := Option.bind_eq_some_iff.mp he
  obtain ⟨ds, h2, he⟩ := Option.bind_eq_some_iff.mp he
  obtain ⟨ys, h3, he⟩ := Option.bind_eq_some_iff.mp he
  split at he
  · rename_i hl
    cases he
    obtain ⟨a, xs, rfl, h4, h5⟩ := hy.seq r.sub h2
    rw [strsD_eq h3] at h5
    rw [h5.strs] at h4
    exact ⟨s, a, ys, hx.str h1, rfl, h4, hl, hQ _ G H r (Gle.refl G) (.str _)⟩
  · cases he
/-! t.index(text), t a tuple of texts -/
def tupD : D → Option (List D)
  | .tup ds => some ds
  | _ => none
def rTIdx (K : PySem.W.Frag) : V → List V → Hp → VK → Prop := fun x xs H Q => ∃ p, ∃ ys : List Str, ∃ z j, x = .ref p ∧ xs = [.str z] ∧ SqT K H p (ys.map V.str) ∧ ys[j]? = some z ∧ (∀ m, m < j → ys[m]? ≠ some z) ∧ Q (.int (j : Nat)) H
def gTIdx (a b : D) : Option EV := (tupD a).bind fun ds => (strsD ds).bind fun ys => (strD b).bind fun z => (ys.findIdx? (fun y => decide (y = z))).map fun j => .dat (.int (j : Nat))
def eMT (g : D → D → Option EV) (fo fe : Env → Out EV) : Env → Out EV := fun env => (fo env).bind fun o e1 => (Out.of ((cont e1 o).bind tupD) e1).bind fun _ e1 => (fe e1).bind fun a e2 => Out.of ((cont e2 o).bind fun x => (cont e2 a).bind fun y => g x y) e2
theorem sem_mT {r : V → List V → Hp → VK → Prop} {g : D → D → Option EV} {to te : TE} {fo fe : Env → Out EV} (hr : MtS1 K r g) (ho : SemD K mg W to fo) (he : SemD K mg W te fe) : SemE K mg W (tMT K r to te) (eMT g fo fe) := by
  intro c G env σ H hK hm r0 Q hQ
  refine ho c G env σ H hK hm r0 _ (post_bind hQ fun o e1 v G1 H1 r1 l1 p1 q1 => ?_)
  cases hs : (cont e1 o).bind tupD with
  | none =>
    rw [hs] at q1
    exact q1.elim
  | some x =>
    rw [hs] at q1
    obtain ⟨d, hd, hs⟩ := Option.bind_eq_some_iff.mp hs
    cases d with
    | tup ds =>
      cases hs
      have hr1 := r1.read (RD.rv p1) hd
      obtain ⟨a, xs, rfl, hg, _, _⟩ := hr1.t r1.sub
      rw [hK] at hg
      refine ⟨⟨a, xs, rfl, r1.sub.gt hg⟩, ?_⟩
      refine he c G1 e1 σ H1 hK hm r1 _ (post_bind q1 fun a e2 u G2 H2 r2 l2 p2 q2 => ?_)
      obtain ⟨ev, hev, q⟩ := post_of q2
      obtain ⟨dx, h1, hev⟩ := Option.bind_eq_some_iff.mp hev
      obtain ⟨dy, h2, hev⟩ := Option.bind_eq_some_iff.mp hev
      exact hr c G2 e2 σ H2 _ u dx dy ev hK r2 (r2.read (RD.rv (p1.mono l2)) h1) (r2.read (RD.rv p2) h2) hev Q q
    | _ => cases hs
theorem ms_tidx : MtS1 K (rTIdx K) gTIdx := by
  intro c G env σ H x y dx dy ev hK r hx hy he Q hQ
  subst hK
  obtain ⟨ds, h1, he⟩ := Option.bind_eq_some_iff.mp he
  obtain ⟨ys, h2, he⟩ := Option.bind_eq_some_iff.mp he
  obtain ⟨z, h3, he⟩ := Option.bind_eq_some_iff.mp he
  obtain ⟨j, h4, rfl⟩ := Option.map_eq_some_iff.mp he
  cases dx with
  | tup es =>
    cases h1
    obtain ⟨a, xs, rfl, _, h5, h6⟩ := hx.t r.sub
    rw [strsD_eq h2] at h6
    rw [h6.strs] at h5
    obtain ⟨hj, e1, e2⟩ := List.findIdx?_eq_some_iff_getElem.mp h4
    refine ⟨a, ys, z, j, rfl, by rw [hy.str h3], h5, ?_, fun m hm e => ?_, hQ _ G H r (Gle.refl G) (.int _)⟩
    · rw [List.getElem?_eq_getElem hj]
      exact congrArg some (of_decide_eq_true e1)
    · have hm' : m < ys.length := by omega
      rw [List.getElem?_eq_getElem hm'] at e
      have := e2 m hm
      rw [Option.some.inj e] at this
      simp at this
  | _ => cases h1

/-! ### dicts -/
/-- d.get(k, x) -/
def eDGet2 (fd fk fx : Env → Out EV) : Env → Out EV := fun env => (fd env).bind fun d e1 => (Out.of ((cont e1 d).bind dicD) e1).bind fun _ e1 => (fk e1).bind fun k e2 => (fx e2).bind fun x e3 => (Out.of (freeze e3 x) e3).bind fun y _ =>
    Out.of ((cont y.2 d).bind dicD |>.bind fun kvs => (cont y.2 k).bind keyD |>.map fun k => (.dat ((valD kvs k).getD y.1))) y.2
where dicD : D → Option (List (Key × D))
  | .dic kvs => some kvs
  | _ => none
abbrev dicD := eDGet2.dicD
theorem S.dic' {G H : Hp} {v : V} {d : D} {kvs : List (Key × D)} (s : Sub G H) (h : S K G H v d) (e : dicD d = some kvs) : ∃ a kvv, v = .ref a ∧ Rd H a (.dK kvv) ∧ RK K G kvv kvs := by
  cases d with
  | dic es =>
    cases e
    exact h.d s
  | _ => cases e
theorem sem_dget2 {td ty tx : TE} {fd fk fx : Env → Out EV} (hd : SemD K mg W td fd) (hk : SemD K mg W ty fk) (hx : SemD K mg W tx fx) : SemE K mg W (tDGet2 td ty tx) (eDGet2 fd fk fx) := by
  intro c G env σ H hK hm r0 Q hQ
  refine hd c G env σ H hK hm r0 _ (post_bind hQ fun o e1 v G1 H1 r1 l1 p1 q1 => ?_)
  cases hs : (cont e1 o).bind dicD with
  | none =>
    rw [show ((cont e1 o).bind eDGet2.dicD) = none from hs] at q1
    exact q1.elim
  | some x =>
    rw [show ((cont e1 o).bind eDGet2.dicD) = some x from hs] at q1
    obtain ⟨d, hd', hs⟩ := Option.bind_eq_some_iff.mp hs
    obtain ⟨a, kvv, rfl, hr, _⟩ := (r1.read (RD.rv p1) hd').dic' r1.sub hs
    refine ⟨a, rfl, .inl ⟨kvv, hr⟩, ?_⟩
    refine hk c G1 e1 σ H1 hK hm r1 _ (post_bind q1 fun k e2 kv G2 H2 r2 l2 p2 q2 => ?_)
    refine hx c G2 e2 σ H2 hK hm r2 _ (post_bind q2 fun z e3 zv G3 H3 r3 l3 p3 q3 => ?_)
    cases hf : freeze e3 z with
    | none =>
      rw [hf] at q3
      exact q3.elim
    | some y =>
      obtain ⟨dz, e4⟩ := y
      rw [hf] at q3
      obtain ⟨G4, r4, l4, p4⟩ := r3.freeze (RD.rv p3) hf
      obtain ⟨ev, hev, q⟩ := post_of (show Post c G3 σ W (PV c σ) Q (Out.of ((cont e4 o).bind dicD |>.bind fun kvs => (cont e4 k).bind keyD |>.map fun k => (EV.dat ((valD kvs k).getD dz))) e4) from q3)
      obtain ⟨kvs, hkvs, hev⟩ := Option.bind_eq_some_iff.mp hev
      obtain ⟨key, hkey, rfl⟩ := Option.map_eq_some_iff.mp hev
      obtain ⟨d1, hd1, hkvs⟩ := Option.bind_eq_some_iff.mp hkvs
      obtain ⟨d2, hd2, hkey⟩ := Option.bind_eq_some_iff.mp hkey
      obtain ⟨a', kvv', e', hr', hk'⟩ := (r4.read (RD.rv (p1.mono ((l2.trans l3).trans l4))) hd1).dic' r4.sub hkvs
      cases e'
      have hkv := (r4.read (RD.rv (p2.mono (l3.trans l4))) hd2).key hkey
      have g := dget_ok (k := key) hr' hk'
      rw [hkv]
      cases hv : valD kvs key with
      | none =>
        rw [hv] at g q
        exact ⟨none, g, q zv G4 H3 r4 l4 p4⟩
      | some dv =>
        rw [hv] at g q
        obtain ⟨w, g, rw'⟩ := g
        exact ⟨some w, g, q w G4 H3 r4 l4 rw'⟩
theorem RK.put {G : Hp} : ∀ {ds : List (Key × D)} {vs : List (Key × V)} {k : Key} {v : V} {d : D}, RK K G vs ds → R K G v d → RK K G (putK vs k v) (putD ds k d) := by
  have any : ∀ {ds : List (Key × D)} {vs : List (Key × V)} {k : Key}, RK K G vs ds → (vs.any fun kv => decide (kv.1 = k)) = (ds.any fun kv => decide (kv.1 = k)) := by
    intro ds
    induction ds with
    | nil =>
      intro vs k h
      cases h
      rfl
    | cons p ds ih =>
      intro vs k h
      cases h with
      | cons h1 h2 => rw [List.any_cons, List.any_cons, ih h2]
  have mp : ∀ {ds : List (Key × D)} {vs : List (Key × V)} {k : Key} {v : V} {d : D}, RK K G vs ds → R K G v d → RK K G (vs.map fun kv => if kv.1 = k then (kv.1, v) else kv) (ds.map fun kv => if kv.1 = k then (kv.1, d) else kv) := by
    intro ds
    induction ds with
    | nil =>
      intro vs k v d h hd
      cases h
      exact .nil
    | cons p ds ih =>
      intro vs k v d h hd
      cases h with
      | @cons k' v' vs' d' _ h1 h2 =>
        rw [List.map_cons, List.map_cons]
        by_cases e : k' = k
        · rw [if_pos e, if_pos e]
          exact .cons hd (ih h2 hd)
        · rw [if_neg e, if_neg e]
          exact .cons h1 (ih h2 hd)
  have app : ∀ {ds : List (Key × D)} {vs : List (Key × V)} {k : Key} {v : V} {d : D}, RK K G vs ds → R K G v d → RK K G (vs ++ [(k, v)]) (ds ++ [(k, d)]) := by
    intro ds
    induction ds with
    | nil =>
      intro vs k v d h hd
      cases h
      exact .cons hd .nil
    | cons p ds ih =>
      intro vs k v d h hd
      cases h with
      | cons h1 h2 => exact .cons h1 (ih h2 hd)
  intro ds vs k v d h hd
  unfold putK putD
  rw [any h]
  by_cases e : (ds.any fun kv => decide (kv.1 = k)) = true
  · rw [if_pos e, if_pos e]
    exact mp h hd
  · rw [if_neg e, if_neg e]
    exact app h hd
def ownD (env : Env) (i : Nat) : Option (List (Key × D)) := match env[i]? with
  | some (.own (.dic ds)) => some ds
  | some (.par (.dic ds)) => some ds
  | _ => none
theorem Rel.ownD {c : Ctx} {G H : Hp} {env : Env} {σ : L2.St} (r : Rel c G env σ H) {i : Nat} {v : V} {ds : List (Key × D)} (hw : σ[i]? = some (some v)) (e : ownD env i = some ds) : ∃ p kvs, v = .ref p ∧ H p = some (.dK kvs) ∧ RK c.K G kvs ds := by
  unfold DL.ownD at e
  split at e
  · rename_i ds' he
    cases e
    obtain ⟨p, e1, _, _, xs, h1, h2⟩ := r.slot i _ he
    rw [hw] at e1
    cases e1
    exact ⟨p, xs, rfl, h1, h2⟩
  · rename_i ds' he
    cases e
    obtain ⟨p, e1, _, _, xs, h1, h2⟩ := r.slot i _ he
    rw [hw] at e1
    cases e1
    exact ⟨p, xs, rfl, h1, h2⟩
  · cases e
/-- d[k] = v, d an own dict -/
def sPut (fd fk fv : Env → Out EV) : Env → OutS := fun env => (fv env).toS fun v e0 => match freeze e0 v with
  | none => .stuck
  | some (dv, e0) => (fd e0).toS fun d e1 => (fk e1).toS fun k e2 => OutS.of ((slotD d).bind fun j => (ownD e2 j).bind fun kvs => (cont e2 k).bind keyD |>.bind fun key => if kvs.length < sizeLine then setOwn e2 j (.dic (putD kvs key dv)) else none)
theorem sem_put {td ty tv : TE} {fd fk fv : Env → Out EV} (hd : SemD K mg W td fd) (hk : SemD K mg W ty fk) (hv : SemE K mg W tv fv) : SemS K mg W (sDPut td ty tv) (sPut fd fk fv) := by
  intro c G env σ H D hK hm r0 h
  refine hv c G env σ H hK hm r0 _ (post_toS h fun ev e0 v G0 H0 r0' l0 p0 q0 => ?_)
  cases hf : freeze e0 ev with
  | none =>
    rw [hf] at q0
    exact q0.elim
  | some y =>
    obtain ⟨dv, e0'⟩ := y
    rw [hf] at q0
    obtain ⟨G1, r1, l1, p1⟩ := r0'.freeze p0 hf
    have q0 := PostS.imp q0 l1 (fun _ _ z => z) (fun _ _ z => z) (fun _ _ z => z) (fun _ _ z => z)
    refine hd c G1 e0' σ H0 hK hm r1 _ (post_toS q0 fun o e1 ov G2 H2 r2 l2 p2 q2 => ?_)
    refine hk c G2 e1 σ H2 hK hm r2 _ (post_toS q2 fun i e2 iv G3 H3 r3 l3 p3 q3 => ?_)
    cases hz : (slotD o).bind fun j => (ownD e2 j).bind fun kvs => (cont e2 i).bind keyD |>.bind fun key => if kvs.length < sizeLine then setOwn e2 j (.dic (putD kvs key dv)) else none with
    | none =>
      rw [hz] at q3
      exact q3.elim
    | some e4 =>
      rw [hz] at q3
      obtain ⟨j, hj, hz⟩ := Option.bind_eq_some_iff.mp hz
      obtain ⟨kvs, hkv, hz⟩ := Option.bind_eq_some_iff.mp hz
      obtain ⟨key, hkey, hset⟩ := Option.bind_eq_some_iff.mp hz
      obtain ⟨d2, hd2, hkey⟩ := Option.bind_eq_some_iff.mp hkey
      split at hset
      · rename_i hlen
        have := slotD_eq hj
        subst this
        have hw : σ[j]? = some (some ov) := p2
        obtain ⟨q, xs, rfl, h1, h2⟩ := r3.ownD hw hkv
        rw [(r3.read (RD.rv p3) hd2).key hkey]
        refine ⟨q, _, rfl, DPut.k h1 (by rw [h2.length]; exact hlen), ?_⟩
        have rv : R c.K G3 v dv := p1.mono (l2.trans l3).sub
        exact q3 σ G3 _ (r3.mutate hw hset fun H' hH' => ⟨_, hH', h2.put rv⟩) (Gle.refl _)
      · cases hset
/-- d.setdefault(k, x), d an own dict: its value there -/
def eSetd (fd fk fx : Env → Out EV) : Env → Out EV := fun env => (fd env).bind fun d e1 => (Out.of ((slotD d).bind fun j => (ownD e1 j).map fun _ => j) e1).bind fun j e1 => (fk e1).bind fun k e2 => (fx e2).bind fun x e3 => (Out.of (freeze e3 x) e3).bind fun y _ =>
    Out.bind (Out.of ((ownD y.2 j).bind fun kvs => (cont y.2 k).bind keyD |>.bind fun key => if kvs.length < sizeLine then (match valD kvs key with
      | some d => some (d, y.2)
      | none => (setOwn y.2 j (.dic (putD kvs key y.1))).map fun e4 => (y.1, e4)) else none) y.2) fun z _ => .val (.dat z.1) z.2
theorem sem_setd {td ty tx : TE} {fd fk fx : Env → Out EV} (hd : SemD K mg W td fd) (hk : SemD K mg W ty fk) (hx : SemD K mg W tx fx) : SemD K mg W (tDSetd td ty tx) (eSetd fd fk fx) := by
  intro c G env σ H hK hm r0 Q hQ
  refine hd c G env σ H hK hm r0 _ (post_bind hQ fun o e1 v G1 H1 r1 l1 p1 q1 => ?_)
  cases hi : (slotD o).bind fun j => (ownD e1 j).map fun _ => j with
  | none =>
    rw [hi] at q1
    exact q1.elim
  | some j =>
    rw [hi] at q1
    obtain ⟨j', hj, hi2⟩ := Option.bind_eq_some_iff.mp hi
    obtain ⟨kvs0, hd0, rfl⟩ := Option.map_eq_some_iff.mp hi2
    have ho := slotD_eq hj
    subst ho
    have hw : σ[j']? = some (some v) := p1
    obtain ⟨p, xs0, rfl, h0, _⟩ := r1.ownD hw hd0
    refine ⟨p, rfl, .inl ⟨xs0, .inl h0⟩, ?_⟩
    refine hk c G1 e1 σ H1 hK hm r1 _ (post_bind q1 fun k e2 kv G2 H2 r2 l2 p2 q2 => ?_)
    refine hx c G2 e2 σ H2 hK hm r2 _ (post_bind q2 fun z e3 zv G3 H3 r3 l3 p3 q3 => ?_)
    cases hf : freeze e3 z with
    | none =>
      rw [hf] at q3
      exact q3.elim
    | some y =>
      obtain ⟨dz, e4⟩ := y
      rw [hf] at q3
      obtain ⟨G4, r4, l4, p4⟩ := r3.freeze (RD.rv p3) hf
      have q3 : Post c G3 σ W (PD c σ) Q (Out.bind (Out.of ((ownD e4 j').bind fun kvs => (cont e4 k).bind keyD |>.bind fun key => if kvs.length < sizeLine then (match valD kvs key with
        | some d => some (d, e4)
        | none => (setOwn e4 j' (.dic (putD kvs key dz))).map fun e5 => (dz, e5)) else none) e4) fun z _ => .val (.dat z.1) z.2) := q3
      cases hz : (ownD e4 j').bind fun kvs => (cont e4 k).bind keyD |>.bind fun key => if kvs.length < sizeLine then (match valD kvs key with
        | some d => some (d, e4)
        | none => (setOwn e4 j' (.dic (putD kvs key dz))).map fun e5 => (dz, e5)) else none with
      | none =>
        rw [hz] at q3
        exact q3.elim
      | some w =>
        obtain ⟨dr, e6⟩ := w
        rw [hz] at q3
        have q3 : Post c G3 σ W (PD c σ) Q (.val (.dat dr) e6) := q3
        obtain ⟨kvs, hkvs, hz⟩ := Option.bind_eq_some_iff.mp hz
        obtain ⟨key, hkey, hz⟩ := Option.bind_eq_some_iff.mp hz
        obtain ⟨d2, hd2, hkey⟩ := Option.bind_eq_some_iff.mp hkey
        obtain ⟨p', xs, e', h1, h2⟩ := r4.ownD hw hkvs
        cases e'
        have hkv := (r4.read (RD.rv (p2.mono (l3.trans l4))) hd2).key hkey
        split at hz
        · rename_i hlen
          have rk := RK.val (k := key) h2
          refine ⟨xs, key, h1, hkv, by rw [h2.length]; exact hlen, ?_, ?_⟩
          · intro w hw'
            cases hv : valD kvs key with
            | none =>
              rw [hv] at rk
              rw [hw'] at rk
              cases rk
            | some dw =>
              rw [hv] at rk hz
              obtain ⟨w2, e2, rw2⟩ := rk
              rw [hw'] at e2
              cases e2
              cases hz
              exact q3 w G4 H3 r4 l4 rw2
          · intro hn
            cases hv : valD kvs key with
            | some dw =>
              rw [hv] at rk
              obtain ⟨w2, e2, _⟩ := rk
              rw [hn] at e2
              cases e2
            | none =>
              rw [hv] at hz
              obtain ⟨e5, hs, hz⟩ := Option.map_eq_some_iff.mp hz
              cases hz
              exact q3 zv G4 _ (r4.mutate hw hs fun H' hH' => ⟨_, hH', h2.put p4⟩) l4 p4
        · cases hz

/-! ### errors of one's own -/
/-- __init__ that stores its parameters, in order -/
def spX (K : PySem.W.Frag) (fl : List Str) : Sp := fun vs H Q _ => vs.length = fl.length + 1 ∧ ∃ (a C : Addr) (ws : List V), vs = .ref a :: ws ∧ OexC K C ∧ (∀ f ∈ fl, PySem.W.findIn K (.ref C) f = some none) ∧ H a = some (exo a C none) ∧ ∀ dx, H dx = none → dx ≠ a → Q .non (upd (upd H dx (exd dx (fl.zip ws).reverse)) a (exo a C (some dx)))
def sRaise (x : Str) (fl : List Str) (fa : Env → Out (List EV)) : Env → OutS := fun env => (fa env).toS fun as e1 => match freezes e1 as with
  | some (ds, e2) => if ds.length = fl.length ∧ ds.length ≤ 1000 then .exc x (some (fl.zip ds).reverse) e2 else .stuck
  | none => .stuck
theorem rf_zip {G : Hp} : ∀ {fl : List Str} {vs : List V} {ds : List D}, RA K G vs ds → (fl.zip vs).map (·.1) = (fl.zip ds).map (·.1) ∧ RA K G ((fl.zip vs).map (·.2)) ((fl.zip ds).map (·.2))
  | [], _, _, _ => by simp [List.zip]; exact .nil
  | f :: fl, _, _, .nil => by simp [List.zip]; exact .nil
  | f :: fl, _, _, .cons r t => by
    obtain ⟨h1, h2⟩ := rf_zip (fl := fl) t
    simp only [List.zip_cons_cons, List.map_cons]
    exact ⟨by rw [h1], .cons r h2⟩
theorem rf_rev {G : Hp} {fl : List Str} {vs : List V} {ds : List D} (h : RA K G vs ds) : RF K G (fl.zip vs).reverse (fl.zip ds).reverse := by
  obtain ⟨h1, h2⟩ := rf_zip (fl := fl) h
  refine ⟨by rw [List.map_reverse, List.map_reverse, h1], ?_⟩
  rw [List.map_reverse, List.map_reverse]
  exact h2.reverse
def tRaiseO (C : Addr) (sp : Sp) (W : WX) (ta : TA) : TS := fun _ σ H => tMkO C sp [] ta σ H fun cls d H' => W cls d σ H'
theorem sem_raise {x : Str} {C : Addr} {fl : List Str} {ta : TA} {fa : Env → Out (List EV)} (hC : mg.1 x = some (.ref C)) (hO : OexC K C) (hf : ∀ f ∈ fl, PySem.W.findIn K (.ref C) f = some none) (ha : SemA K mg W ta fa) : SemS K mg W (tRaiseO C (spX K fl) W ta) (sRaise x fl fa) := by
  intro c G env σ H D hK hm r h
  refine ha c G env σ H hK hm r _ (post_toS h fun as e1 vs G1 H1 r1 l1 p1 q1 => ?_)
  cases hz : freezes e1 as with
  | none =>
    rw [hz] at q1
    exact q1.elim
  | some y =>
    obtain ⟨ds, e2⟩ := y
    rw [hz] at q1
    have q1 : PostS c G1 W D (if ds.length = fl.length ∧ ds.length ≤ 1000 then .exc x (some (fl.zip ds).reverse) e2 else .stuck) := q1
    by_cases hl : ds.length = fl.length ∧ ds.length ≤ 1000
    · rw [if_pos hl] at q1
      obtain ⟨G2, r2, l2, p2⟩ := r1.freezes p1 hz
      have hlen := p2.length
      refine ⟨by rw [hlen]; exact hl.2, fun a han => ?_⟩
      rw [List.append_nil]
      refine ⟨by rw [List.length_cons, hlen, hl.1], a, C, vs, rfl, hO, hf, upd_same, fun dx hdx hne => ⟨rfl, dx, (fl.zip vs).reverse, upd_same, ?_, ?_, ?_⟩⟩
      · rw [upd_ne hne, upd_same]
      · rw [upd_ne hne] at hdx
        exact hdx
      · rw [upd_ne hne] at hdx
        have hfun : upd (del (upd (upd (upd H1 a (exo a C none)) dx (exd dx (fl.zip vs).reverse)) a (exo a C (some dx))) a) dx (.xd (fl.zip vs).reverse) = upd H1 dx (.xd (fl.zip vs).reverse) := by
          funext b
          by_cases hb : b = dx
          · rw [hb, upd_same, upd_same]
          · rw [upd_ne hb, upd_ne hb]
            by_cases hba : b = a
            · rw [hba, del_same, han]
            · rw [del_ne hba, upd_ne hba, upd_ne hb, upd_ne hba]
        rw [hfun]
        have r3 := r2.new (o := .xd (fl.zip vs).reverse) hdx
        refine q1 _ _ σ _ _ r3 (l2.trans (Gle.upd (r2.freshG hdx))) ⟨C, by rw [← hm] at hC; exact hC, rfl, dx, _, rfl, upd_same, ?_⟩
        have p3 : RA c.K (upd G2 dx (.xd (fl.zip vs).reverse)) vs ds := p2.mono (Gle.upd (r2.freshG hdx)).sub
        exact rf_rev p3
    · rw [if_neg hl] at q1
      exact q1.elim
end
end DL

namespace DL
open PySem L2 PySem.Spec PyProof.Rows
section
variable {K : PySem.W.Frag} {mg : MX} {W : WX} {pos : Pos}
/-! ### the bodies of __init__ -/
theorem init1 {f : Str} {vs : List V} {H : Hp} {Q : VK} {E : XK} (h : spX K [f] vs H Q E) : tOst K f (tVar 0) (tVar 1) { nx := fun _ H' => Q .non H', rt := Q } (L2.start ["self", f] vs) H := by
  obtain ⟨hl, a, C, ws, rfl, hO, hf, ha, q⟩ := h
  match ws, hl with
  | [v], _ =>
    refine ⟨v, rfl, .ref a, rfl, a, C, rfl, hO, hf f (by simp), .inl ⟨ha, fun dx h1 h2 => ?_⟩⟩
    have := q dx h1 h2
    exact this
theorem init2 {f g : Str} {vs : List V} {H : Hp} {Q : VK} {E : XK} (h : spX K [f, g] vs H Q E) : tSeq (tOst K f (tVar 0) (tVar 1)) (tOst K g (tVar 0) (tVar 2)) { nx := fun _ H' => Q .non H', rt := Q } (L2.start ["self", f, g] vs) H := by
  obtain ⟨hl, a, C, ws, rfl, hO, hf, ha, q⟩ := h
  match ws, hl with
  | [v, w], _ =>
    refine ⟨v, rfl, .ref a, rfl, a, C, rfl, hO, hf f (by simp), .inl ⟨ha, fun dx h1 h2 => ?_⟩⟩
    refine ⟨w, rfl, .ref a, rfl, a, C, rfl, hO, hf g (by simp), .inr ⟨dx, [(f, v)], upd_same, ?_, by simp, ?_⟩⟩
    · rw [upd_ne h2, upd_same]
    · have h3 := q dx h1 h2
      have e : upd (upd (upd H dx (exd dx [(f, v)])) a (exo a C (some dx))) dx (exd dx ((g, w) :: [(f, v)])) = upd (upd H dx (exd dx (List.zip [f, g] [v, w]).reverse)) a (exo a C (some dx)) := by
        funext b
        by_cases hb : b = dx
        · rw [hb, upd_same, upd_ne h2, upd_same]
          rfl
        · rw [upd_ne hb]
          by_cases hd : b = a
          · rw [hd, upd_same, upd_same]
          · rw [upd_ne hd, upd_ne hd, upd_ne hb, upd_ne hb]
      show Q .non _
      rw [e]
      exact h3

/-! ### try .. except X as e -/
def unX : Slot → Slot
  | .exc _ _ => .no
  | s => s
def noX (env : Env) : Env := env.map unX
theorem noX_get {env : Env} {i : Nat} {s : Slot} (h : (noX env)[i]? = some s) : ∃ s0, env[i]? = some s0 ∧ s = unX s0 := by
  unfold noX at h
  rw [List.getElem?_map] at h
  cases he : env[i]? with
  | none =>
    rw [he] at h
    cases h
  | some s0 =>
    rw [he] at h
    exact ⟨s0, rfl, (Option.some.inj h).symm⟩
theorem Rel.noX {c : Ctx} {x : Option (Addr × Value × Option Addr)} {G H : Hp} {env : Env} {σ : L2.St} (r : Rel { c with xa := x } G env σ H) : Rel c G (noX env) σ H := by
  refine ⟨r.sub, r.g0, r.gfix, r.keep, r.lks, r.pah, r.pinj, ?_, fun i s hs => ?_, fun i j p d e h1 h2 h3 h4 => ?_, fun a o h => ?_, fun i p h => ?_⟩
  · unfold DL.noX
    rw [List.length_map]
    exact r.len
  · obtain ⟨s0, h0, rfl⟩ := noX_get hs
    have so := r.slot i s0 h0
    cases s0 with
    | exc y fs => trivial
    | _ => exact so
  · obtain ⟨s1, a1, b1⟩ := noX_get h1
    obtain ⟨s2, a2, b2⟩ := noX_get h2
    have e1 : s1 = .own d := by cases s1 <;> cases b1; rfl
    have e2 : s2 = .own e := by cases s2 <;> cases b2; rfl
    rw [e1] at a1
    rw [e2] at a2
    exact r.dist i j p d e a1 a2 h3 h4
  · obtain ⟨h1, h2, h3⟩ := r.frs a o h
    refine ⟨h1, h2, fun i d hi => ?_⟩
    rcases hi with hi | hi
    · obtain ⟨s1, a1, b1⟩ := noX_get hi
      have e1 : s1 = .own d := by cases s1 <;> cases b1; rfl
      rw [e1] at a1
      exact h3 i d (.inl a1)
    · obtain ⟨s1, a1, b1⟩ := noX_get hi
      have e1 : s1 = .par d := by cases s1 <;> cases b1; rfl
      rw [e1] at a1
      exact h3 i d (.inr a1)
  · obtain ⟨d, hd⟩ := r.pars i p h
    refine ⟨d, ?_⟩
    unfold DL.noX
    rw [List.getElem?_map]
    rcases hd with hd | hd
    · rw [hd]
      exact .inl rfl
    · rw [hd]
      exact .inr rfl
/-- the name of the error is gone behind the suite -/
def gone (i : Nat) (env : Env) : Option Env := if wipable (noX env) [i] then some ((noX env).set i .no) else none
def sTry (x : Str) (i : Nat) (Fb Fs : Env → OutS) : Env → OutS := fun env => match Fb env with
  | .exc y fs e1 => if y = x ∧ storable e1 i = true then (match Fs (e1.set i (.exc y fs)) with
    | .next e2 => OutS.of (gone i e2)
    | .brk e2 => (match gone i e2 with | some e3 => .brk e3 | none => .stuck)
    | .cnt e2 => (match gone i e2 with | some e3 => .cnt e3 | none => .stuck)
    | .ret (.dat d) e2 => .ret (.dat d) (noX e2)
    | _ => .stuck) else .stuck
  | o => o
theorem Rel.gone {c : Ctx} {x : Option (Addr × Value × Option Addr)} {G H : Hp} {env env' : Env} {σ : L2.St} {i : Nat} (r : Rel { c with xa := x } G env σ H) (h : gone i env = some env') : Rel c G env' (σ.set i none) H := by
  unfold DL.gone at h
  split at h
  · rename_i hw
    cases h
    exact r.noX.wipe (vs := [i]) hw
  · cases h
def tTryAs (K : PySem.W.Frag) (C : Addr) (i : Nat) (tb : WX → TS) (ts : Addr → Value → Option Addr → TS) (W : WX) : TS := fun D σ H => tb (wAs K (.ref C) i ts W D) D σ H
theorem ps_tryA {X : Cx} {x n : Str} {C : Addr} {i : Nat} {body suite : List Stmt} {b₀ : Stmt} {np pos pos' : Pos} {tb : WX → TS} {ts : Addr → Value → Option Addr → TS} {Wout : WX} (hN : X.N.Nodup) (hmC : X.mg x = some (.ref C)) (tk : Takes X Wout)
    (hb : ∀ (W : WX) (pn : List (Addr × Obj)) (xe : Value → Shared → Prop), Takes (X.tr pn xe) W → PassesOwn (model X.prog X.w) X.A X.env xe → PSs (X.tr pn xe) body (tb W))
    (hsu : ∀ (a : Addr) (oe : Obj) (cls : Value) (d : Option Addr) (pn : List (Addr × Obj)), Zc cls d oe → (∃ vs, oe.data = .fields vs) → PSs (X.suite a ((a, oe) :: pn)) (b₀ :: suite) (ts a cls d))
    (hs : X.stack = X.env :: X.outer := by rfl) (hf : X.env.frame = some X.env.locals := by rfl) (hi : X.N[i]? = some n := by rfl) (hln : X.env.kindOf n = some .local := by rfl) (hg : Gl X x := by rfl) (hdb : (x == ("__debug__" : Str)) = false := by decide) :
    PS X (.Try body [.ExceptHandler (some (.Name x np)) (some n) (b₀ :: suite) pos'] [] [] pos) (tTryAs X.K C i tb ts Wout) := ps_try_as hs hf hN hi hln ⟨hg, hdb, .inl hmC⟩ tk hb hsu
theorem sem_try {x : Str} {C : Addr} {i : Nat} {tb : WX → TS} {ts : Addr → Value → Option Addr → TS} {Fb Fs : Env → OutS} (hx : mg.2 = none) (hC : mg.1 x = some (.ref C)) (he : PySem.W.exmOne K (.ref C) (.ref C) = some true) (hb : ∀ W, SemS K mg W (tb W) Fb)
    (hs : ∀ a cls d, SemS K (mg.1, some (a, cls, d)) W0 (ts a cls d) Fs) : SemS K mg W (tTryAs K C i tb ts W) (sTry x i Fb Fs) := by
  intro c G env σ H D hK hm r h
  refine hb (wAs K (.ref C) i ts W D) c G env σ H D hK hm r ?_
  unfold sTry at h
  cases hF : Fb env with
  | exc y fs e1 =>
    rw [hF] at h
    intro cls d σ' G' H' r' l' xo
    have h : PostS c G W D (if y = x ∧ storable e1 i = true then (match Fs (e1.set i (.exc y fs)) with
      | .next e2 => OutS.of (gone i e2)
      | .brk e2 => (match gone i e2 with | some e3 => .brk e3 | none => .stuck)
      | .cnt e2 => (match gone i e2 with | some e3 => .cnt e3 | none => .stuck)
      | .ret (.dat d) e2 => .ret (.dat d) (noX e2)
      | _ => .stuck) else .stuck) := h
    by_cases hy : y = x ∧ storable e1 i = true
    · rw [if_pos hy] at h
      have hh := h
      clear h
      obtain ⟨rfl, hst⟩ := hy
      have hcls : cls = .ref C := by
        obtain ⟨C', h1, h2, _⟩ := xo
        have : c.mg = mg.1 := by rw [← hm]
        rw [this, hC] at h1
        cases h1
        exact h2
      subst hcls
      refine ⟨true, he, fun _ a ha => ?_, fun z => Bool.noConfusion z⟩
      have hxa : c.xa = none := by
        rw [← hx, ← hm]
      have r2 : Rel { c with xa := some (a, .ref C, d) } G' e1 σ' H' := by
        refine ⟨r'.sub, r'.g0, r'.gfix, r'.keep, r'.lks, r'.pah, r'.pinj, r'.len, fun j s hj => ?_, r'.dist, r'.frs, r'.pars⟩
        have so := r'.slot j s hj
        cases s with
        | exc z f2 =>
          obtain ⟨_, _, _, _, h3, _⟩ := so
          rw [hxa] at h3
          cases h3
        | _ => exact so
      have r3 : Rel { c with xa := some (a, .ref C, d) } G' (e1.set i (.exc y fs)) (σ'.set i (some (.ref a))) H' :=
        r2.store hst ⟨a, .ref C, d, rfl, rfl, xo⟩ (fun _ _ z => by cases z) (fun _ => ⟨(fun z => by cases z), (fun z => by cases z)⟩)
      refine hs a (.ref C) d { c with xa := some (a, .ref C, d) } G' _ _ H' _ hK (by rw [← hm]) r3 ?_
      cases hFs : Fs (e1.set i (.exc y fs)) with
      | next e2 =>
        rw [hFs] at hh
        intro σ2 G2 H2 r4 l4
        have h' : PostS c G W D (OutS.of (gone i e2)) := hh
        cases hg : gone i e2 with
        | none =>
          rw [hg] at h'
          exact h'.elim
        | some e3 =>
          rw [hg] at h'
          exact h' _ G2 H2 (r4.gone hg) (l'.trans l4)
      | brk e2 =>
        rw [hFs] at hh
        intro σ2 G2 H2 r4 l4
        have h' : PostS c G W D (match gone i e2 with | some e3 => .brk e3 | none => .stuck) := hh
        cases hg : gone i e2 with
        | none =>
          rw [hg] at h'
          exact h'.elim
        | some e3 =>
          rw [hg] at h'
          exact h' _ G2 H2 (r4.gone hg) (l'.trans l4)
      | cnt e2 =>
        rw [hFs] at hh
        intro σ2 G2 H2 r4 l4
        have h' : PostS c G W D (match gone i e2 with | some e3 => .cnt e3 | none => .stuck) := hh
        cases hg : gone i e2 with
        | none =>
          rw [hg] at h'
          exact h'.elim
        | some e3 =>
          rw [hg] at h'
          exact h' _ G2 H2 (r4.gone hg) (l'.trans l4)
      | ret ev e2 =>
        rw [hFs] at hh
        cases ev with
        | dat dd =>
          intro v σ2 G2 H2 r4 l4 p4
          exact hh v σ2 G2 H2 r4.noX (l'.trans l4) p4
        | new dd => exact hh.elim
        | slot j => exact hh.elim
      | exc z f2 e2 =>
        rw [hFs] at hh
        exact hh.elim
      | stuck =>
        rw [hFs] at hh
        exact hh.elim
    · rw [if_neg hy] at h
      exact h.elim
  | next e =>
    rw [hF] at h
    exact h
  | brk e =>
    rw [hF] at h
    exact h
  | cnt e =>
    rw [hF] at h
    exact h
  | ret v e =>
    rw [hF] at h
    exact h
  | stuck =>
    rw [hF] at h
    exact h
/-- e.f in a suite, e the error -/
def eXf (x f : Str) (i : Nat) : Env → Out EV := fun env => match env[i]? with
  | some (.exc y (some fs)) => if y = x then (match fs.lookup f with
    | some d => .val (.dat d) env
    | none => .stuck) else .stuck
  | _ => .stuck
theorem RF.look {G : Hp} {f : Str} : ∀ {vs : List (Str × V)} {fs : List (Str × D)} {d : D}, RF K G vs fs → fs.lookup f = some d → ∃ v, vs.lookup f = some v ∧ R K G v d
  | vs, [], _, h, e => by cases e
  | [], _ :: _, _, h, e => by
    have := h.1
    cases this
  | (g, v) :: vs, (g', d') :: fs, d, h, e => by
    obtain ⟨h1, h2⟩ := h
    simp only [List.map_cons, List.cons.injEq] at h1
    obtain ⟨rfl, h1⟩ := h1
    cases h2 with
    | cons h3 h4 =>
      rw [List.lookup_cons] at e ⊢
      cases hb : f == g with
      | true =>
        rw [hb] at e
        cases e
        exact ⟨v, rfl, h3⟩
      | false =>
        rw [hb] at e
        exact RF.look ⟨h1, h4⟩ e
theorem sem_xf {x f : Str} {a C : Addr} {cls : Value} {d : Option Addr} {i : Nat} (hx : mg.2 = some (a, cls, d)) (hC : mg.1 x = some (.ref C)) : SemE K mg W (tXf a cls d C f (tVar i)) (eXf x f i) := by
  intro c G env σ H hK hm r Q h
  unfold eXf at h
  split at h
  · rename_i y fs he
    split at h
    · rename_i hy
      subst hy
      split at h
      · rename_i dv hl
        obtain ⟨a', cls', d', e1, e2, xo⟩ := r.slot i _ he
        have hxa : c.xa = some (a, cls, d) := by rw [← hx, ← hm]
        rw [hxa] at e2
        cases e2
        obtain ⟨C', h1, h2, dd, vs, h3, h4, h5⟩ := xo
        have : c.mg = mg.1 := by rw [← hm]
        rw [this, hC] at h1
        cases h1
        obtain ⟨v, hv, rv⟩ := h5.look hl
        have hH : H dd = some (.xd vs) := by
          rcases r.sub _ _ h4 with z | ⟨⟨_, z⟩, _⟩
          · exact z
          · cases z
        exact ⟨_, e1, rfl, h2, dd, vs, v, h3, hH, hv, h v G H r (Gle.refl G) rv⟩
      · exact h.elim
    · exact h.elim
  · exact h.elim
end
end DL

namespace DL
open PySem L2 PySem.Spec PyProof.Rows
/-- a def of the module that keeps a plain function -/
def Def (P : Program) (w : World) (K : PySem.W.Frag) (mg : Str → Option Value) (base : Heap) (name : Str) (k : Nat) (ps : List Str) (np : Nat) (F : List Slot → OutF) : Prop :=
  ∃ (f : Addr) (fd : FuncData), mg name = some (.ref f) ∧ PySem.W.keepIn K (.ref f) = true ∧ Binds K fd ps [] ∧ FnOk P w K mg base (L2.CX P w) k f fd ps (spD K mg np F)
section
variable {X : Cx} {W : WX}
theorem pe_own {k : Nat} {f : Addr} {fd : FuncData} {ps : List Str} {sp : Sp} {x : Str} {p pos : Pos} {e : Expr} {es : List Expr} {t : TA} (tk : Takes X W) (F : FnOk X.prog X.w X.K X.mg X.base (L2.CX X.prog X.w) k f fd ps sp) (hr : Room k X.A) (hm : X.mg x = some (.ref f)) (hk : PySem.W.keepIn X.K (.ref f) = true) (hb : Binds X.K fd ps [])
    (ha : PA X (e :: es) t) (hg : Gl X x := by rfl) (hdb : (x == ("__debug__" : Str)) = false := by decide) (he : starEach (e :: es) X.env = (false, eval e X.env) :: starEach es X.env := by rfl) (hpl : (backTo pos (starEach es X.env)).any (·.1) = false := by rfl) :
    PE X (.Call (.Name x p) (e :: es) [] pos) (tCallSD sp [] (fun σ cls d H => W cls d σ H) t) :=
  pe_callSD F hr hg hm hk hb .nil (fun σ => passAt tk σ) ha hdb he hpl
end
section
variable {K : PySem.W.Frag} {mg : MX} {W : WX}
theorem gT2_ok (n i j : Nat) (ev : EV) (env : Env) : (∃ e, gT n (gsCons (gN i) (gsCons (gN j) gsNil)) ev env = .next e) ∨ gT n (gsCons (gN i) (gsCons (gN j) gsNil)) ev env = .stuck := by
  have key : ∀ (ds : List D) (env : Env), (∃ e, gsCons (gN i) (gsCons (gN j) gsNil) ds env = .next e) ∨ gsCons (gN i) (gsCons (gN j) gsNil) ds env = .stuck := by
    intro ds env
    cases ds with
    | nil => exact .inr rfl
    | cons d r =>
      show (∃ e, (gN i (.dat d) env).bind (gsCons (gN j) gsNil r) = .next e) ∨ (gN i (.dat d) env).bind (gsCons (gN j) gsNil r) = .stuck
      rcases gN_ok i (.dat d) env with ⟨e1, h⟩ | h
      · rw [h]
        cases r with
        | nil => exact .inr rfl
        | cons d2 r2 =>
          show (∃ e, (gN j (.dat d2) e1).bind (gsNil r2) = .next e) ∨ (gN j (.dat d2) e1).bind (gsNil r2) = .stuck
          rcases gN_ok j (.dat d2) e1 with ⟨e2, h2⟩ | h2
          · rw [h2]
            cases r2 with
            | nil => exact .inl ⟨e2, rfl⟩
            | cons _ _ => exact .inr rfl
          · rw [h2]
            exact .inr rfl
      · rw [h]
        exact .inr rfl
  unfold gT
  split
  · split
    · exact key _ _
    · exact .inr rfl
  · split
    · exact key _ _
    · exact .inr rfl
  · exact .inr rfl
theorem gT3_ok (n i j k : Nat) (ev : EV) (env : Env) : (∃ e, gT n (gsCons (gN i) (gsCons (gN j) (gsCons (gN k) gsNil))) ev env = .next e) ∨ gT n (gsCons (gN i) (gsCons (gN j) (gsCons (gN k) gsNil))) ev env = .stuck := by
  have key : ∀ (ds : List D) (env : Env), (∃ e, gsCons (gN i) (gsCons (gN j) (gsCons (gN k) gsNil)) ds env = .next e) ∨ gsCons (gN i) (gsCons (gN j) (gsCons (gN k) gsNil)) ds env = .stuck := by
    intro ds env
    cases ds with
    | nil => exact .inr rfl
    | cons d r =>
      show (∃ e, (gN i (.dat d) env).bind (gsCons (gN j) (gsCons (gN k) gsNil) r) = .next e) ∨ (gN i (.dat d) env).bind (gsCons (gN j) (gsCons (gN k) gsNil) r) = .stuck
      rcases gN_ok i (.dat d) env with ⟨e1, h⟩ | h
      · rw [h]
        cases r with
        | nil => exact .inr rfl
        | cons d2 r2 =>
          show (∃ e, (gN j (.dat d2) e1).bind (gsCons (gN k) gsNil r2) = .next e) ∨ (gN j (.dat d2) e1).bind (gsCons (gN k) gsNil r2) = .stuck
          rcases gN_ok j (.dat d2) e1 with ⟨e2, h2⟩ | h2
          · rw [h2]
            cases r2 with
            | nil => exact .inr rfl
            | cons d3 r3 =>
              show (∃ e, (gN k (.dat d3) e2).bind (gsNil r3) = .next e) ∨ (gN k (.dat d3) e2).bind (gsNil r3) = .stuck
              rcases gN_ok k (.dat d3) e2 with ⟨e3, h3⟩ | h3
              · rw [h3]
                cases r3 with
                | nil => exact .inl ⟨e3, rfl⟩
                | cons _ _ => exact .inr rfl
              · rw [h3]
                exact .inr rfl
          · rw [h2]
            exact .inr rfl
      · rw [h]
        exact .inr rfl
  unfold gT
  split
  · split
    · exact key _ _
    · exact .inr rfl
  · split
    · exact key _ _
    · exact .inr rfl
  · exact .inr rfl
theorem sem_set2 {te : TE} {n i j : Nat} {fe : Env → Out EV} (he : SemE K mg W te fe) : SemS K mg W (tAsg te (gTup K n (gCons (gName i) (gCons (gName j) gNil)))) (sAsg fe (gT n (gsCons (gN i) (gsCons (gN j) gsNil)))) := sem_asg he (sem_gTup (sem_gsCons sem_gName (sem_gsCons sem_gName sem_gsNil))) (gT2_ok n i j)
theorem sem_set3 {te : TE} {n i j k : Nat} {fe : Env → Out EV} (he : SemE K mg W te fe) : SemS K mg W (tAsg te (gTup K n (gCons (gName i) (gCons (gName j) (gCons (gName k) gNil))))) (sAsg fe (gT n (gsCons (gN i) (gsCons (gN j) (gsCons (gN k) gsNil))))) := sem_asg he (sem_gTup (sem_gsCons sem_gName (sem_gsCons sem_gName (sem_gsCons sem_gName sem_gsNil)))) (gT3_ok n i j k)
theorem sem_for2 {wi : TI} {n i j : Nat} {tb : TS} {fs : Env → Out Src} {F : Env → OutS} (hi : SemI K mg W wi fs) (hb : SemS K mg W tb F) : SemS K mg W (tFor wi (gTup K n (gCons (gName i) (gCons (gName j) gNil))) tb) (sFor fs (gT n (gsCons (gN i) (gsCons (gN j) gsNil))) F) := sem_for hi (sem_gTup (sem_gsCons sem_gName (sem_gsCons sem_gName sem_gsNil))) (gT2_ok n i j) hb
theorem gSetL_ok (fo fi : Env → Out EV) (ev : EV) (env : Env) : True := trivial
/-- xs[i] = e -/
def sSetL (fe fo fi : Env → Out EV) : Env → OutS := fun env => (fe env).toS fun ev e => gSetL fo fi ev e
theorem sem_setL {te to ti : TE} {fe fo fi : Env → Out EV} (he : SemE K mg W te fe) (ho : SemD K mg W to fo) (hi : SemD K mg W ti fi) : SemS K mg W (tAsg te (gSub to ti rSetL)) (sSetL fe fo fi) := by
  intro c G env σ H D hK hm r h
  refine he c G env σ H hK hm r _ (post_toS h fun ev e1 v G1 H1 r1 l1 p1 q1 => ?_)
  refine sem_gSetL ho hi c G1 e1 σ H1 v ev D.nx hK hm r1 p1 ?_
  have noX : ∀ o : OutS, PostS c G1 W D o → (∀ e, o ≠ .brk e) → (∀ e, o ≠ .cnt e) → (∀ v e, o ≠ .ret v e) → PostS c G1 W { nx := D.nx, rt := fun _ _ => False, bk := fun _ _ => False, ct := fun _ _ => False } o := by
    intro o ho h1 h2 h3
    cases o with
    | next e => exact ho
    | brk e => exact absurd rfl (h1 e)
    | cnt e => exact absurd rfl (h2 e)
    | ret v e => exact absurd rfl (h3 v e)
    | exc x f e => exact ho
    | stuck => exact ho
  have shape : ∀ (o : Option Env) , (∀ e, OutS.of o ≠ .brk e) ∧ (∀ e, OutS.of o ≠ .cnt e) ∧ (∀ v e, OutS.of o ≠ .ret v e) := by
    intro o
    cases o with
    | none => exact ⟨fun e z => (by cases z), fun e z => (by cases z), fun v e z => (by cases z)⟩
    | some e => exact ⟨fun e z => (by cases z), fun e z => (by cases z), fun v e z => (by cases z)⟩
  have sh2 : (∀ e, gSetL fo fi ev e1 ≠ .brk e) ∧ (∀ e, gSetL fo fi ev e1 ≠ .cnt e) ∧ (∀ v e, gSetL fo fi ev e1 ≠ .ret v e) := by
    unfold gSetL
    split
    · exact ⟨fun e z => (by cases z), fun e z => (by cases z), fun v e z => (by cases z)⟩
    · rename_i d env1 hf
      cases fo env1 with
      | stuck => exact ⟨fun e z => (by cases z), fun e z => (by cases z), fun v e z => (by cases z)⟩
      | exc x f e => exact ⟨fun e z => (by cases z), fun e z => (by cases z), fun v e z => (by cases z)⟩
      | val o e2 =>
        show (∀ e, ((fi e2).toS _) ≠ .brk e) ∧ (∀ e, ((fi e2).toS _) ≠ .cnt e) ∧ ∀ v e, ((fi e2).toS _) ≠ .ret v e
        cases fi e2 with
        | stuck => exact ⟨fun e z => (by cases z), fun e z => (by cases z), fun v e z => (by cases z)⟩
        | exc x f e => exact ⟨fun e z => (by cases z), fun e z => (by cases z), fun v e z => (by cases z)⟩
        | val i e3 => exact shape _
  exact noX _ q1 sh2.1 sh2.2.1 sh2.2.2
end
end DL

namespace DL
open PySem L2 PySem.Spec PyProof.Rows
/-- an error class of one's own: its fields, its __init__ -/
structure ExcOk (P : Program) (w : World) (K : PySem.W.Frag) (mg : Str → Option Value) (base : Heap) (x : Str) (fl : List Str) (C : Addr) : Prop where
  mC : mg x = some (.ref C)
  T : OexC K C
  nof : ∀ f ∈ fl, PySem.W.findIn K (.ref C) f = some none
  te : PySem.W.exmOne K (.ref C) (.ref C) = some true
  xf : XfC K C
  init : ∃ (fI : Addr) (fdI : FuncData), PySem.W.findIn K (.ref C) "__init__" = some (some (.ref fI)) ∧ PySem.W.typeIn K (.ref fI) = some (.type "function") ∧ Binds K fdI ("self" :: fl) [] ∧ FnOk P w K mg base (L2.CX P w) 1 fI fdI ("self" :: fl) (spX K fl)
section
variable {X : Cx} {W : WX}
theorem ps_raiseO {x : Str} {fl : List Str} {C : Addr} {e : Expr} {es : List Expr} {ta : TA} {p pos pos2 : Pos} (E : ExcOk X.prog X.w X.K X.mg X.base x fl C) (tk : Takes X W) (hr : Room 2 X.A) (ha : PA X (e :: es) ta) (hc : X.calm = true := by rfl) (hg : Gl X x := by rfl) (hdb : (x == ("__debug__" : Str)) = false := by decide)
    (he : starEach (e :: es) X.env = (false, eval e X.env) :: starEach es X.env := by rfl) (hpl : (backTo pos (starEach es X.env)).any (·.1) = false := by rfl) : PS X (.Raise (some (.Call (.Name x p) (e :: es) [] pos)) none pos2) (tRaiseO C (spX X.K fl) W ta) := by
  obtain ⟨fI, fdI, iC, tI, bI, FI⟩ := E.init
  exact ps_raise hc tk (pmk_oex E.T iC tI FI hr bI .nil passL hg E.mC ha hdb he hpl)
end
section
variable {K : PySem.W.Frag}
def gNeg : D → Option EV := fun d => match d with | .int i => some (.dat (.int (-i))) | _ => none
theorem us_neg : UnSem K (rU fun i => .int (-i)) gNeg := by
  intro c G env σ H x dx ev hK r hx he Q hQ
  unfold gNeg at he
  split at he
  · cases he
    exact ⟨_, hx.i, hQ _ G H r (Gle.refl G) (.int _)⟩
  · cases he
end
end DL

/-! DLE: enumerate and zip over lists and tuples of any mix -/
namespace DL
open PySem L2 PySem.Spec PyProof.Rows

def SqA (b : Bool) (K : PySem.W.Frag) (H : Hp) (a : Addr) (xs : List V) : Prop := match b with
  | true => SqL K H a xs
  | false => SqT K H a xs
def itA (b : Bool) (h : Heap) (it a : Addr) (i : Nat) : Prop := match b with
  | true => h.IsListIter it a i
  | false => h.IsTupleIter it a i
def sqA (b : Bool) (h : Heap) (a : Addr) (items : Array Value) : Prop := match b with
  | true => h.IsList a items
  | false => h.IsTuple a items
def objA (b : Bool) (a : Addr) : Obj := match b with
  | true => { cls := .type "list_iterator", data := .fields #[.ref a, .int 0 0] }
  | false => { cls := .type "tuple_iterator", data := .fields #[.ref a, .int 0 0] }
theorem drawsA {prog : Program} {w : World} {A : Around} (b : Bool) (hh : A.handled = none) (it a : Addr) (hne : a ≠ it) (items : Array Value) :
    Draws prog w A it [it, a] items.size (fun i v => items[i]? = some v) (fun i h => itA b h it a i ∧ sqA b h a items) := by
  cases b with
  | true => exact Draws.list hh it a hne items
  | false => exact Draws.tuple hh it a hne items
theorem beginsA (b : Bool) (a : Addr) (items : Array Value) : Begins (.ref a) (objA b a) fun h => sqA b h a items := by
  cases b with
  | true => exact begins_list a items
  | false => exact begins_tuple a items
theorem itA.get {b : Bool} {h : Heap} {it a : Addr} {i : Nat} (q : itA b h it a i) : ∃ o, h.get? it = some o ∧ ∀ v, o.data = .cell v → False := by
  cases b with
  | true =>
    obtain ⟨o, e, c, d⟩ := q
    exact ⟨o, e, fun v z => by rw [d] at z; cases z⟩
  | false =>
    obtain ⟨o, e, c, d⟩ := q
    exact ⟨o, e, fun v z => by rw [d] at z; cases z⟩
theorem itA.at {b : Bool} {h h' : Heap} {it a : Addr} {i : Nat} (q : itA b h it a i) (k : ∀ o, h.get? it = some o → h'.get? it = some o) : itA b h' it a i := by
  cases b with
  | true => exact Heap.IsListIter.at q k
  | false => exact Heap.IsTupleIter.at q k
theorem itA.new {b : Bool} {h : Heap} {it a : Addr} (q : h.get? it = some (objA b a)) : itA b h it a 0 := by
  cases b with
  | true => exact ⟨_, q, rfl, rfl⟩
  | false => exact ⟨_, q, rfl, rfl⟩
section
variable {X : Cx} {pins : List (Addr × Obj)} {σ : L2.St} {H : Hp} {s : Shared}
theorem inv_sqA {b : Bool} {a : Addr} {xs : List V} (I : Inv X pins σ H s) (h : SqA b X.K H a xs) : ∃ its : List Value, Vals xs its ∧ sqA b s.heap a its.toArray ∧ a < s.heap.objs.size := by
  cases b with
  | true =>
    obtain ⟨its, r, p, _⟩ := I.list h
    exact ⟨its, r, p.isList, p.lt⟩
  | false =>
    obtain ⟨its, r, p, _⟩ := I.tuple h
    refine ⟨its, r, p, ?_⟩
    obtain ⟨o, e, _⟩ := p
    exact Heap.lt_size e
theorem inv_sqA_inj {b : Bool} {a : Addr} {xs ys : List V} (I : Inv X pins σ H s) (h : SqA b X.K H a xs) (h' : SqA b X.K H a ys) : xs = ys := by
  cases b with
  | true => exact I.list_inj h h'
  | false => exact I.tuple_inj h h'
end
/-- enumerate: each item in a new pair -/
def ItE (b : Bool) (K : PySem.W.Frag) (a : Addr) : It :=
  ⟨fun i H => ∃ (xs : List V) (x : V), SqA b K H a xs ∧ xs[i]? = some x, fun i H v H' => ∃ T x, v = .ref T ∧ H T = none ∧ H' = upd H T (.tup [.int (i : Nat), x]) ∧ ∀ xs, SqA b K H a xs → xs[i]? = some x, fun i H => ∃ xs : List V, SqA b K H a xs ∧ xs.length = i⟩
theorem turn_enumA {P : Program} {w : World} {K : PySem.W.Frag} {elts : List Expr} {kk : Nat} {tpos : Pos} (b : Bool) (a e it : Addr) (hea : e ≠ a) (hia : a ≠ it) :
    Turn P w K (.Tuple elts kk tpos) (ItE b K a) [e, it] e (fun i h => (∃ old, IsEnum h e it ((i : Nat) : Int) old) ∧ itA b h it a i ∧ e ≠ it) where
  mem := by simp
  obj := fun i h st b hb => by
    obtain ⟨⟨old, he⟩, hi, _⟩ := st
    have e' : b = e ∨ b = it := by simpa using hb
    rcases e' with z | z
    · rw [z]; exact ⟨_, he, fun v q => nomatch q⟩
    · rw [z]
      obtain ⟨o, ho, hd⟩ := hi.get
      exact ⟨o, ho, fun v q => (hd v q).elim⟩
  keep := fun i h h' st k => let ⟨⟨old, he⟩, hi, hne⟩ := st; ⟨⟨old, k e (by simp) _ he⟩, hi.at fun o q => k it (by simp) o q, hne⟩
  item := by
    intro X hP hw hK hc i pins s σ H E I hf st hg
    subst hP hw hK
    obtain ⟨⟨old, he⟩, hit, hne⟩ := st
    obtain ⟨xs, x, hq, hx⟩ := hg
    obtain ⟨its, rv, p, _⟩ := inv_sqA I hq
    obtain ⟨u, hu, ru⟩ := rv.get hx
    have hel : e < s.heap.objs.size := Heap.lt_size he
    have hil : it < s.heap.objs.size := by obtain ⟨_, q, _⟩ := hit.get; exact Heap.lt_size q
    have hlt : i < its.toArray.size := by
      rw [List.size_toArray]
      exact (List.getElem?_eq_some_iff.mp hu).1
    have hd : (X.A.in1).handled = none := I.ok.hd hc
    refine wpAny_pyNext_enum_itemC (drawsA b hd it a hia its.toArray) he ⟨hit, p⟩ hlt hne (by simp [hne, hea]) fun y h' tk hy ho st' hT hsz hk => ?_
    obtain rfl : y = u := by
      have z : its.toArray[i]? = some u := by simpa using hu
      have hy : its.toArray[i]? = some y := hy
      rw [hy] at z
      exact Option.some.inj z
    have hit' := st'.1
    refine ⟨_, rfl, wpAny_letOwnedTupleGo_enum (s := { s with heap := h', toks := tk + 1 }) ho fun h'' he' sb => ?_⟩
    have hT2 : h''.get? s.heap.objs.size = some { cls := .type "tuple", data := .seq #[.int i tk, y] } := (sb.2 _ (Nat.ne_of_gt hel)).trans hT
    have new : ObjOk X.prog X.w (upd H s.heap.objs.size (.tup [.int (i : Nat), x])) h'' s.heap.objs.size (.tup [.int (i : Nat), x]) :=
      ⟨by show 2 ≤ sizeLine; decide, [.int i tk, y], .cons ⟨_, rfl⟩ (.cons ru .nil), ⟨_, hT2, rfl, _, rfl⟩⟩
    have I1 : Inv X pins σ (upd H s.heap.objs.size (.tup [.int (i : Nat), x])) { s with heap := h'', toks := tk + 1 } :=
      I.turnedNew (ch := [e, it]) (fun b ob hb q => (sb.2 b (fun z => hb (by simp [z]))).trans (hk b ob (fun z => hb (by simp [z])) (fun z => hb (by simp [z])) q)) hf (Nat.le_refl _) new
    refine ⟨.ref s.heap.objs.size, _, I1, rfl, ⟨_, x, rfl, I.hok.fresh (Nat.le_refl _), rfl, fun ys hy => by rw [inv_sqA_inj I hy hq]; exact hx⟩, ⟨⟨y, ?_⟩, hit'.at fun o q => (sb.2 it (Ne.symm hne)).trans q, hne⟩, fun b hb => ?_⟩
    · have e1 : ((i + 1 : Nat) : Int) = (i : Int) + 1 := by omega
      rw [e1]; exact he'
    · have hb' : b < s.heap.objs.size := by
        have e' : b = e ∨ b = it := by simpa using hb
        rcases e' with z | z
        · rw [z]; exact hel
        · rw [z]; exact hil
      rw [upd_ne (Nat.ne_of_lt hb')]
      exact (hf b hb).1
  done := by
    intro X hP hw hK hc i pins s σ H E I hf st hg
    subst hP hw hK
    obtain ⟨⟨old, he⟩, hit, hne⟩ := st
    obtain ⟨xs, hq, hx⟩ := hg
    obtain ⟨its, rv, p, _⟩ := inv_sqA I hq
    obtain ⟨f0, f1, f2, f3, f4, f5⟩ := hf it (by simp)
    have hl := rv.length
    have hn : i = its.toArray.size := by
      rw [List.size_toArray, ← hl]
      exact hx.symm
    have hd : (X.A.in1).handled = none := I.ok.hd hc
    subst hn
    exact wpAny_pyNext_enum_endD (drawsA b hd it a hia its.toArray) he ⟨hit, p⟩ fun h' eb => ⟨rfl, I.turned (t' := s.toks) (fun b o hb q => eb b o hb q) f0 f1 f3 f4 f5⟩
  self := fun A i s Q E st h => let ⟨⟨_, he⟩, _⟩ := st; wpAny_pyIter_enum he h
set_option maxHeartbeats 1000000 in
theorem meets_enum_new1 {v : Value} {o : Obj} {H : Heap → Prop} (B : Begins v o H) :
    Meets (Builtin.«enumerate.__new__» ⟨[.type "enumerate", v], []⟩) (fun _ R s => H s.heap ∧
      R (.ok (.ret (.ref (s.heap.push o).objs.size))) { s with heap := (s.heap.push o).push { cls := .type "enumerate", data := .fields #[.none, .bool false, .ref s.heap.objs.size, rawInt 0, .none, .none] } }) :=
  .of_wp fun prog w A R s h => by
    obtain ⟨hp, g, d, tk, os⟩ := s; obtain ⟨h1, h⟩ := h
    have hsub := sub_enumerate
    have q1 : ∀ {A' : Around} {E : Value → Shared → Prop} {Q : Value → Shared → Prop}, Q (.ref hp.objs.size) ⟨hp.push o, g, d, tk, os⟩ → wpAny (model prog w) A' (pyIter v) Q E ⟨hp, g, d, tk, os⟩ :=
      fun q => B.iter prog w _ _ ⟨hp, g, d, tk, os⟩ _ h1 q
    wp_walk using q1
    refine wpAny_stack_any fun st => wpAny_pure ?_
    split
    · rename_i c _ _ _ _ _
      cases (c == Value.type "enumerate")
      · wp_walk using q1
        exact ⟨_, rfl, h⟩
      · wp_walk using q1
        exact ⟨_, rfl, h⟩
    · wp_walk using q1
      exact ⟨_, rfl, h⟩
theorem enum_begins1 {prog : Program} {w : World} {A : Around} {E : Value → Shared → Prop} {s : Shared} {v : Value} {o : Obj} {H : Heap → Prop} {Q : Value → Shared → Prop} (B : Begins v o H) (h1 : H s.heap)
    (h : ∀ h', IsEnum h' (s.heap.objs.size + 1) s.heap.objs.size 0 .none → h'.get? s.heap.objs.size = some o → h'.objs.size = s.heap.objs.size + 2 →
      (∀ b o, s.heap.get? b = some o → h'.get? b = some o) → Q (.ref (s.heap.objs.size + 1)) { s with heap := h' }) :
    wpAny (model prog w) A (call (.type "enumerate") [v]) Q E s := by
  refine callType_new F.called_enumerate (by decide) (F.typeCall_enumerate_1 _) (F.newCall_enumerate_1 _) (fun obj => F.args_object_init_2 obj _) F.entry_enumerate_new
    (meets_enum_new1 B) ⟨h1, ?_⟩
  have hz : (s.heap.push o).objs.size = s.heap.objs.size + 1 := Heap.size_push ..
  show _ ∧ _
  rw [hz]
  have he : IsEnum ((s.heap.push o).push { cls := .type "enumerate", data := .fields #[.none, .bool false, .ref s.heap.objs.size, rawInt 0, .none, .none] }) (s.heap.objs.size + 1) s.heap.objs.size 0 .none := by
    have := Heap.get?_push_size (s.heap.push o) (o := { cls := .type "enumerate", data := .fields #[.none, .bool false, .ref s.heap.objs.size, rawInt 0, .none, .none] }) rfl
    rw [hz] at this; exact this
  refine ⟨⟨_, he, rfl⟩, h _ he (Heap.get?_push_of_some _ (Heap.get?_push_size _ B.free)) (by rw [Heap.size_push, hz]) fun b o x => Heap.get?_push_of_some _ (Heap.get?_push_of_some _ x)⟩
def iEnumA (K : PySem.W.Frag) (ta : TA) : TI := fun σ H R => ta σ H fun vs H1 => ∃ a b xs, vs = [.ref a] ∧ SqA b K H1 a xs ∧ R (ItE b K a) H1
theorem pi_enumA {X : Cx} {e : Expr} {ta : TA} {p pos tpos : Pos} {elts : List Expr} {kk : Nat} (hg : Gl X "enumerate") (hm : X.mg "enumerate" = none) (ha : PA X [e] ta) (hs : starEach [e] X.env = [(false, eval e X.env)] := by rfl) :
    PI X (.Tuple elts kk tpos) (.Call (.Name "enumerate" p) [e] [] pos) (iEnumA X.K ta) := by
  refine ⟨fun pins s σ H R I h => ?_⟩
  refine Call_ (ld_blt I hg hm boot_enumerate (PyProof.Rows.callWith_type1 (thn (ha.run pos pins s σ H _ I h) fun us s1 ⟨vs, H1, I1, r1, q1⟩ => ?_) hs rfl))
  obtain ⟨a, b, xs, ex, hq, q⟩ := q1
  subst ex
  cases r1 with
  | cons r rr =>
    cases rr
    cases r
    obtain ⟨its, rv, p', hal⟩ := inv_sqA I1 hq
    refine enum_begins1 (beginsA b a its.toArray) p' fun h' he hit hsz hk => wpAny_pyIter_enum he ?_
    have I2 : Inv X pins σ H1 { s1 with heap := h' } := I1.kept (t' := s1.toks) hk
    refine ⟨s1.heap.objs.size + 1, [s1.heap.objs.size + 1, s1.heap.objs.size], _, _, H1, rfl, I2, turn_enumA b a (s1.heap.objs.size + 1) s1.heap.objs.size (Nat.ne_of_gt (Nat.lt_succ_of_lt hal)) (Nat.ne_of_lt hal), ⟨⟨.none, he⟩, itA.new hit, Nat.succ_ne_self _⟩, fun b hb => ?_, q⟩
    have e' : b = s1.heap.objs.size + 1 ∨ b = s1.heap.objs.size := by simpa using hb
    have hle : s1.heap.objs.size ≤ b := by
      rcases e' with z | z
      · rw [z]; exact Nat.le_add_right _ _
      · rw [z]; exact Nat.le_refl _
    exact I1.fpOk hle (I1.hok.fresh hle)

/-- zip of two: the items in new pairs -/
def ItZ (b c : Bool) (K : PySem.W.Frag) (a a' : Addr) : It :=
  ⟨fun i H => ∃ (xs ys : List V) (x y : V), SqA b K H a xs ∧ SqA c K H a' ys ∧ xs[i]? = some x ∧ ys[i]? = some y,
    fun i H v H' => ∃ T x y, v = .ref T ∧ H T = none ∧ H' = upd H T (.tup [x, y]) ∧ (∀ xs, SqA b K H a xs → xs[i]? = some x) ∧ ∀ ys, SqA c K H a' ys → ys[i]? = some y,
    fun i H => ∃ xs ys : List V, SqA b K H a xs ∧ SqA c K H a' ys ∧ i ≤ xs.length ∧ i ≤ ys.length ∧ (i = xs.length ∨ i = ys.length)⟩
theorem turn_zipM {P : Program} {w : World} {K : PySem.W.Frag} {elts : List Expr} {kk : Nat} {tpos : Pos} (b1 b2 : Bool) {a a' z TI TO i1 i2 : Addr} (D : ZipSep2 z TI TO i1 i2 [i1, a] [i2, a']) (ha : a ≠ i1) (ha' : a' ≠ i2) :
    Turn P w K (.Tuple elts kk tpos) (ItZ b1 b2 K a a') [z, TI, TO, i1, i2] z (fun i h => IsZip h z TI TO .none ∧ IsTupOf2 h TI (.ref i1) (.ref i2) ∧ (∃ x y, IsTupOf2 h TO x y) ∧ itA b1 h i1 a i ∧ itA b2 h i2 a' i) where
  mem := by simp
  obj := fun i h st c hc => by
    obtain ⟨hz, hTI, ⟨x, y, hTO⟩, h1, h2⟩ := st
    obtain ⟨o1, e1, d1⟩ := h1.get
    obtain ⟨o2, e2, d2⟩ := h2.get
    have e' : c = z ∨ c = TI ∨ c = TO ∨ c = i1 ∨ c = i2 := by simpa using hc
    rcases e' with q | q | q | q | q
    · rw [q]; exact ⟨_, hz, fun v q => nomatch q⟩
    · rw [q]; exact ⟨_, hTI, fun v q => nomatch q⟩
    · rw [q]; exact ⟨_, hTO, fun v q => nomatch q⟩
    · rw [q]; exact ⟨o1, e1, fun v q => (d1 v q).elim⟩
    · rw [q]; exact ⟨o2, e2, fun v q => (d2 v q).elim⟩
  keep := fun i h h' st k => by
    obtain ⟨hz, hTI, ⟨x, y, hTO⟩, h1, h2⟩ := st
    exact ⟨k z (by simp) _ hz, k TI (by simp) _ hTI, ⟨x, y, k TO (by simp) _ hTO⟩, h1.at fun o q => k i1 (by simp) o q, h2.at fun o q => k i2 (by simp) o q⟩
  item := by
    intro X hP hw hK hc i pins s σ H E I hf st hg
    subst hP hw hK
    obtain ⟨hz, hTI, ⟨x0, y0, hTO⟩, h1, h2⟩ := st
    obtain ⟨xs, ys, x, y, hqx, hqy, hx, hy⟩ := hg
    obtain ⟨its, rv, p, _⟩ := inv_sqA I hqx
    obtain ⟨its2, rv2, p2, _⟩ := inv_sqA I hqy
    obtain ⟨u, hu, ru⟩ := rv.get hx
    obtain ⟨u2, hu2, ru2⟩ := rv2.get hy
    have hzl : z < s.heap.objs.size := Heap.lt_size hz
    have l1 : i < its.toArray.size := by
      rw [List.size_toArray]
      exact (List.getElem?_eq_some_iff.mp hu).1
    have l2 : i < its2.toArray.size := by
      rw [List.size_toArray]
      exact (List.getElem?_eq_some_iff.mp hu2).1
    have hd : (X.A.in1).handled = none := I.ok.hd hc
    refine wpAny_pyNext_zipD2_item D (drawsA b1 hd i1 a ha its.toArray) (drawsA b2 hd i2 a' ha' its2.toArray) hz hTI hTO ⟨h1, p⟩ ⟨h2, p2⟩ l1 l2 fun y1 y2 h' tk hy1 hy2 z' TO' st1 st2 hT hsz hk => ?_
    obtain rfl : y1 = u := by
      have z : its.toArray[i]? = some u := by simpa using hu
      have hy : its.toArray[i]? = some y1 := hy1
      rw [hy] at z
      exact Option.some.inj z
    obtain rfl : y2 = u2 := by
      have z : its2.toArray[i]? = some u2 := by simpa using hu2
      have hy : its2.toArray[i]? = some y2 := hy2
      rw [hy] at z
      exact Option.some.inj z
    refine ⟨_, rfl, wpAny_letOwnedTupleGo_zip (s := { s with heap := h', toks := tk }) z' fun h'' z'' sb => ?_⟩
    have hT2 : h''.get? s.heap.objs.size = some { cls := .type "tuple", data := .seq #[y1, y2] } := (sb.2 _ (Nat.ne_of_gt hzl)).trans hT
    have new : ObjOk X.prog X.w (upd H s.heap.objs.size (.tup [x, y])) h'' s.heap.objs.size (.tup [x, y]) :=
      ⟨by show 2 ≤ sizeLine; decide, [y1, y2], .cons ru (.cons ru2 .nil), ⟨_, hT2, rfl, _, rfl⟩⟩
    have I1 : Inv X pins σ (upd H s.heap.objs.size (.tup [x, y])) { s with heap := h'', toks := tk } :=
      I.turnedNew (t' := tk) (ch := [z, TI, TO, i1, i2]) (fun c o hb q => (sb.2 c (fun q' => hb (by simp [q']))).trans (hk c o (fun q' => hb (by simp [q'])) (fun q' => hb (by simp [q'])) (fun q' => hb (by simp [q'])) (fun q' => hb (by simp [q'])) q)) hf (Nat.le_refl _) new
    refine ⟨.ref s.heap.objs.size, _, I1, rfl, ⟨_, x, y, rfl, I.hok.fresh (Nat.le_refl _), rfl, fun l hl => by rw [inv_sqA_inj I hl hqx]; exact hx, fun l hl => by rw [inv_sqA_inj I hl hqy]; exact hy⟩, ⟨z'', ?_, ⟨y1, y2, ?_⟩, ?_, ?_⟩, fun c hcm => ?_⟩
    · exact (sb.2 _ D.TIz).trans (hk _ _ D.TIz D.TITO D.TIi1 D.TIi2 hTI)
    · exact (sb.2 _ D.TOz).trans TO'
    · exact st1.1.at fun o q => (sb.2 _ (Ne.symm D.zi1)).trans q
    · exact st2.1.at fun o q => (sb.2 _ (Ne.symm D.zi2)).trans q
    · have hlt : c < s.heap.objs.size := by
        have e' : c = z ∨ c = TI ∨ c = TO ∨ c = i1 ∨ c = i2 := by simpa using hcm
        rcases e' with q | q | q | q | q
        · rw [q]; exact hzl
        · rw [q]; exact Heap.lt_size hTI
        · rw [q]; exact Heap.lt_size hTO
        · rw [q]; obtain ⟨_, e1, _⟩ := h1.get; exact Heap.lt_size e1
        · rw [q]; obtain ⟨_, e2, _⟩ := h2.get; exact Heap.lt_size e2
      rw [upd_ne (Nat.ne_of_lt hlt)]
      exact (hf c hcm).1
  done := by
    intro X hP hw hK hc i pins s σ H E I hf st hg
    subst hP hw hK
    obtain ⟨hz, hTI, ⟨x0, y0, hTO⟩, h1, h2⟩ := st
    obtain ⟨xs, ys, hqx, hqy, hx, hy, hend⟩ := hg
    obtain ⟨its, rv, p, _⟩ := inv_sqA I hqx
    obtain ⟨its2, rv2, p2, _⟩ := inv_sqA I hqy
    have l1 := rv.length
    have l2 := rv2.length
    have hd : (X.A.in1).handled = none := I.ok.hd hc
    exact wpAny_pyNext_zipD2_end D (drawsA b1 hd i1 a ha its.toArray) (drawsA b2 hd i2 a' ha' its2.toArray) hz hTI hTO ⟨h1, p⟩ ⟨h2, p2⟩ (by rw [List.size_toArray]; omega) (by rw [List.size_toArray]; omega) (by rw [List.size_toArray, List.size_toArray]; omega)
      fun h' tk hk => ⟨rfl, I.turnedL (t' := tk) (ch := [z, TI, TO, i1, i2]) (fun c o hb q =>
      hk c o (fun q' => hb (by simp [q'])) (fun q' => hb (by simp [q'])) (fun q' => hb (by simp [q'])) (fun q' => hb (by simp [q'])) q) hf⟩
  self := fun A i s Q E st h => wpAny_pyIter_zip st.1 h
def iZipM (K : PySem.W.Frag) (ta : TA) : TI := fun σ H R => ta σ H fun vs H1 => ∃ a a' b1 b2 xs ys, vs = [.ref a, .ref a'] ∧ SqA b1 K H1 a xs ∧ SqA b2 K H1 a' ys ∧ R (ItZ b1 b2 K a a') H1
theorem pi_zipM {X : Cx} {e e2 : Expr} {ta : TA} {p pos tpos : Pos} {elts : List Expr} {kk : Nat} (hg : Gl X "zip") (hm : X.mg "zip" = none) (ha : PA X [e, e2] ta)
    (hs : starEach [e, e2] X.env = (false, eval e X.env) :: starEach [e2] X.env := by rfl) (hpl : (backTo pos (starEach [e2] X.env)).any (·.1) = false := by rfl) :
    PI X (.Tuple elts kk tpos) (.Call (.Name "zip" p) [e, e2] [] pos) (iZipM X.K ta) := by
  refine ⟨fun pins s σ H R I h => ?_⟩
  refine Call_ (ld_blt I hg hm PyProof.Rows.boot_zip (PyProof.Rows.callWith_type1 (thn (ha.run pos pins s σ H _ I h) fun us s1 ⟨vs, H1, I1, r1, q1⟩ => ?_) hs hpl))
  obtain ⟨a, a', b1, b2, xs, ys, ex, hqx, hqy, q⟩ := q1
  subst ex
  cases r1 with
  | cons r rr =>
    cases rr with
    | cons r' rr =>
      cases rr
      cases r
      cases r'
      obtain ⟨its, rv, p1, la⟩ := inv_sqA I1 hqx
      obtain ⟨its2, rv2, p2, lb⟩ := inv_sqA I1 hqy
      refine zip_begins2 (beginsA b1 a its.toArray) (beginsA b2 a' its2.toArray) p1 p2 fun h' hz hTI hTO h1 h2 hsz hk => wpAny_pyIter_zip hz ?_
      have I2 : Inv X pins σ H1 { s1 with heap := h' } := I1.kept (t' := s1.toks) hk
      have sep := zip_sep2 (N := s1.heap.objs.size) (fp1 := [a]) (fp2 := [a']) (fun c hc => by rw [List.mem_singleton.mp hc]; exact la) (fun c hc => by rw [List.mem_singleton.mp hc]; exact lb)
      refine ⟨s1.heap.objs.size + 4, [s1.heap.objs.size + 4, s1.heap.objs.size + 2, s1.heap.objs.size + 3, s1.heap.objs.size, s1.heap.objs.size + 1], _, _, H1, rfl, I2, turn_zipM b1 b2 sep (Nat.ne_of_lt la) (Nat.ne_of_lt (Nat.lt_succ_of_lt lb)), ⟨hz, hTI, ⟨_, _, hTO⟩, itA.new h1, itA.new h2⟩, fun c hcm => ?_, q⟩
      have e' : c = s1.heap.objs.size + 4 ∨ c = s1.heap.objs.size + 2 ∨ c = s1.heap.objs.size + 3 ∨ c = s1.heap.objs.size ∨ c = s1.heap.objs.size + 1 := by simpa using hcm
      have hle : s1.heap.objs.size ≤ c := by
        rcases e' with z | z | z | z | z
        · rw [z]; exact Nat.le_add_right _ _
        · rw [z]; exact Nat.le_add_right _ _
        · rw [z]; exact Nat.le_add_right _ _
        · rw [z]; exact Nat.le_refl _
        · rw [z]; exact Nat.le_add_right _ _
      exact I1.fpOk hle (I1.hok.fresh hle)

/-! ### what stands still while it is gone through -/
structure Steady (c : Ctx) (G0 : Hp) (b : Bool) (a : Addr) (s : Src) : Prop where
  get : ∀ (i : Nat) (G : Hp) (env : Env) (σ : L2.St) (H : Hp) (d : D), Rel c G env σ H → Gle G0 G → i < s.n → s.it env i = some d → ∃ xs v, SqA b c.K H a xs ∧ xs[i]? = some v ∧ R c.K G v d
  len : ∀ (G : Hp) (env : Env) (σ : L2.St) (H : Hp), Rel c G env σ H → Gle G0 G → s.ok env = true → ∃ xs, SqA b c.K H a xs ∧ xs.length = s.n
theorem steady_list {c : Ctx} {G : Hp} {a : Addr} {xs : List V} {ds : List D} (hG : G a = some (.lst xs)) (h : RA c.K G xs ds) : Steady c G true a (datS ds) := by
  refine ⟨fun i G1 env σ H d r l hi hd => ?_, fun G1 env σ H r l _ => ?_⟩
  · obtain ⟨v, hv, rv⟩ := h.get hd
    exact ⟨xs, v, SqL.of (r.sub.lst (l _ _ hG)), hv, rv.mono l.sub⟩
  · exact ⟨xs, SqL.of (r.sub.lst (l _ _ hG)), h.length⟩
theorem steady_frl {c : Ctx} {G : Hp} {a : Addr} {xs : List V} {ds : List D} (hG : SqL c.K G a xs) (h : RA c.K G xs ds) : Steady c G true a (datS ds) := by
  refine ⟨fun i G1 env σ H d r l hi hd => ?_, fun G1 env σ H r l _ => ?_⟩
  · obtain ⟨v, hv, rv⟩ := h.get hd
    exact ⟨xs, v, r.sub.sqL (l.sub.sqL hG), hv, rv.mono l.sub⟩
  · exact ⟨xs, r.sub.sqL (l.sub.sqL hG), h.length⟩
theorem steady_tup {c : Ctx} {G : Hp} {a : Addr} {xs : List V} {ds : List D} (hG : SqT c.K G a xs) (h : RA c.K G xs ds) : Steady c G false a (datS ds) := by
  refine ⟨fun i G1 env σ H d r l hi hd => ?_, fun G1 env σ H r l _ => ?_⟩
  · obtain ⟨v, hv, rv⟩ := h.get hd
    exact ⟨xs, v, r.sub.sqT (l.sub.sqT hG), hv, rv.mono l.sub⟩
  · exact ⟨xs, r.sub.sqT (l.sub.sqT hG), h.length⟩
theorem steady_live {c : Ctx} {G : Hp} {j n : Nat} {p : Addr} (hp : c.pa j = some p) : Steady c G true p (liveS j n) := by
  refine ⟨fun i G1 env σ H d r l hi hd => ?_, fun G1 env σ H r l hok => ?_⟩
  · obtain ⟨ds, he, hd⟩ := Option.bind_eq_some_iff.mp hd
    obtain ⟨xs, h1, h2⟩ := live_at r hp he
    split at hd
    · obtain ⟨v, hv, rv⟩ := h2.get hd
      exact ⟨xs, v, SqL.of h1, hv, rv⟩
    · cases hd
  · have hok : (match liveL env j with | some ds => ds.length == n | none => false) = true := hok
    split at hok
    · rename_i ds he
      obtain ⟨xs, h1, h2⟩ := live_at r hp he
      have e2 : ds.length = n := by simpa using hok
      exact ⟨xs, SqL.of h1, h2.length.trans e2⟩
    · cases hok
theorem Steady.mono {c : Ctx} {G G' : Hp} {b : Bool} {a : Addr} {s : Src} (h : Steady c G b a s) (l : Gle G G') : Steady c G' b a s :=
  ⟨fun i G1 env σ H d r l1 => h.get i G1 env σ H d r (l.trans l1), fun G1 env σ H r l1 => h.len G1 env σ H r (l.trans l1)⟩
theorem sqA_inj {b : Bool} {K : PySem.W.Frag} {H : Hp} {a : Addr} {xs ys : List V} (h : SqA b K H a xs) (h2 : SqA b K H a ys) : True := trivial
def enS (s : Src) : Src := ⟨s.n, s.ok, fun env i => (s.it env i).map fun d => .prs [.int (i : Nat), d]⟩
theorem turns_E {c : Ctx} {G : Hp} {b : Bool} {a : Addr} {s : Src} (h : Steady c G b a s) : Turns c G (ItE b c.K a) (enS s) := by
  refine ⟨fun i G1 env σ H d r l hi hd => ?_, fun G1 env σ H r l hok => h.len G1 env σ H r l hok⟩
  obtain ⟨d', hd', rfl⟩ := Option.map_eq_some_iff.mp hd
  obtain ⟨xs, v, h1, h2, h3⟩ := h.get i G1 env σ H d' r l hi hd'
  refine ⟨⟨xs, v, h1, h2⟩, fun x H' y => ?_⟩
  obtain ⟨T, x', rfl, hT, rfl, hx⟩ := y
  have e := hx xs h1
  rw [h2] at e
  cases e
  have r2 := r.new (o := .tup [.int (i : Nat), v]) hT
  have l2 : Gle G1 (upd G1 T (.tup [.int (i : Nat), v])) := Gle.upd (r.freshG hT)
  exact ⟨_, r2, l2, .prs (.inl (.inl upd_same)) (.cons (.int _) (.cons (h3.mono l2.sub) .nil))⟩
def ziS (s s' : Src) : Src := ⟨min s.n s'.n, fun env => s.ok env && s'.ok env, fun env i => (s.it env i).bind fun d => (s'.it env i).map fun d' => .prs [d, d']⟩
theorem turns_Z {c : Ctx} {G : Hp} {b b' : Bool} {a a' : Addr} {s s' : Src} (h : Steady c G b a s) (h' : Steady c G b' a' s') : Turns c G (ItZ b b' c.K a a') (ziS s s') := by
  refine ⟨fun i G1 env σ H d r l hi hd => ?_, fun G1 env σ H r l hok => ?_⟩
  · have hi : i < min s.n s'.n := hi
    obtain ⟨d1, hd1, hd⟩ := Option.bind_eq_some_iff.mp hd
    obtain ⟨d2, hd2, rfl⟩ := Option.map_eq_some_iff.mp hd
    obtain ⟨xs, v, h1, h2, h3⟩ := h.get i G1 env σ H d1 r l (by omega) hd1
    obtain ⟨ys, u, k1, k2, k3⟩ := h'.get i G1 env σ H d2 r l (by omega) hd2
    refine ⟨⟨xs, ys, v, u, h1, k1, h2, k2⟩, fun x H' y => ?_⟩
    obtain ⟨T, x', y', rfl, hT, rfl, hx, hy⟩ := y
    have e := hx xs h1
    rw [h2] at e
    cases e
    have e := hy ys k1
    rw [k2] at e
    cases e
    have r2 := r.new (o := .tup [v, u]) hT
    have l2 : Gle G1 (upd G1 T (.tup [v, u])) := Gle.upd (r.freshG hT)
    exact ⟨_, r2, l2, .prs (.inl (.inl upd_same)) (.cons (h3.mono l2.sub) (.cons (k3.mono l2.sub) .nil))⟩
  · have hok : (s.ok env && s'.ok env) = true := hok
    rw [Bool.and_eq_true] at hok
    obtain ⟨xs, h1, h2⟩ := h.len G1 env σ H r l hok.1
    obtain ⟨ys, k1, k2⟩ := h'.len G1 env σ H r l hok.2
    refine ⟨xs, ys, h1, k1, ?_⟩
    have e : (ziS s s').n = min s.n s'.n := rfl
    omega
def PSt (c : Ctx) (v : V) : Hp → Env → Hp → Src → Bool × Addr → Prop := fun G _ H s p => v = .ref p.2 ∧ (∃ xs, SqA p.1 c.K H p.2 xs) ∧ ∀ f l, Steady { c with fr := f, lk := l } G p.1 p.2 s
section
variable {K : PySem.W.Frag} {mg : MX} {W : WX}
theorem src_st {c : Ctx} {G : Hp} {env : Env} {σ : L2.St} {H : Hp} {v : V} {ev : EV} {Q : Bool × Addr → Hp → Prop} (r : Rel c G env σ H) (p : RD c G σ v ev) (h : Post c G σ W (PSt c v) Q (srcOf env ev)) :
    ∃ p, Q p H := by
  have byL : ∀ {G' : Hp} {env' : Env} {ds : List D}, Rel c G' env' σ H → Gle G G' → R c.K G' v (.lst ds) → Post c G σ W (PSt c v) Q (.val (datS ds) env') → ∃ p, Q p H := by
    intro G' env' ds r' l' hr hq
    cases hr with
    | lst h1 h2 => exact ⟨(true, _), hq _ G' H r' l' ⟨rfl, ⟨_, SqL.of (r'.sub.lst h1)⟩, fun f l => steady_list h1 h2⟩⟩
  have byF : ∀ {G' : Hp} {env' : Env} {ds : List D}, Rel c G' env' σ H → Gle G G' → R c.K G' v (.frl ds) → Post c G σ W (PSt c v) Q (.val (datS ds) env') → ∃ p, Q p H := by
    intro G' env' ds r' l' hr hq
    cases hr with
    | frl h1 h2 => exact ⟨(true, _), hq _ G' H r' l' ⟨rfl, ⟨_, r'.sub.sqL h1⟩, fun f l => steady_frl h1 h2⟩⟩
  have byT : ∀ {G' : Hp} {env' : Env} {ds : List D}, Rel c G' env' σ H → Gle G G' → R c.K G' v (.tup ds) → Post c G σ W (PSt c v) Q (.val (datS ds) env') → ∃ p, Q p H := by
    intro G' env' ds r' l' hr hq
    cases hr with
    | tup h1 h2 => exact ⟨(false, _), hq _ G' H r' l' ⟨rfl, ⟨_, r'.sub.sqT h1.1⟩, fun f l => steady_tup h1.1 h2⟩⟩
  cases ev with
  | new d => exact p.elim
  | dat d =>
    cases d with
    | lst ds => exact byL r (Gle.refl _) p h
    | frl ds => exact byF r (Gle.refl _) p h
    | tup ds => exact byT r (Gle.refl _) p h
    | _ => exact h.elim
  | slot j =>
    have hw : σ[j]? = some (some v) := p
    have h : Post c G σ W (PSt c v) Q (match env[j]? with
      | some (.own (.lst ds)) => .val (datS ds) (env.set j (.imm (.lst ds)))
      | some (.imm (.lst ds)) => .val (datS ds) env
      | some (.imm (.tup ds)) => .val (datS ds) env
      | some (.imm (.frl ds)) => .val (datS ds) env
      | some (.par (.lst ds)) => .val (liveS j ds.length) env
      | _ => .stuck) := h
    split at h
    · rename_i ds he
      obtain ⟨q, G', e1, r', l', hr⟩ := r.freezeO he
      rw [hw] at e1
      cases e1
      exact byL r' l' hr h
    · rename_i ds he
      obtain ⟨w, e1, hr⟩ := r.slot j _ he
      rw [hw] at e1
      cases e1
      exact byL r (Gle.refl _) hr h
    · rename_i ds he
      obtain ⟨w, e1, hr⟩ := r.slot j _ he
      rw [hw] at e1
      cases e1
      exact byT r (Gle.refl _) hr h
    · rename_i ds he
      obtain ⟨w, e1, hr⟩ := r.slot j _ he
      rw [hw] at e1
      cases e1
      exact byF r (Gle.refl _) hr h
    · rename_i ds he
      obtain ⟨q, e1, e2, _, xs, h1, h2⟩ := r.slot j _ he
      rw [hw] at e1
      cases e1
      exact ⟨(true, q), h _ G H r (Gle.refl _) ⟨rfl, ⟨xs, SqL.of h1⟩, fun f l => steady_live e2⟩⟩
    · exact h.elim
def srcE (fa : Env → Out (List EV)) : Env → Out Src := fun env => (fa env).bind fun as e1 => match as with
  | [ev] => (srcOf e1 ev).bind fun s e2 => .val (enS s) e2
  | _ => .stuck
theorem sem_enumI {ta : TA} {fa : Env → Out (List EV)} (ha : SemA K mg W ta fa) : SemI K mg W (iEnumA K ta) (srcE fa) := by
  intro c G env σ H hK hm r R h
  refine ha c G env σ H hK hm r _ (post_bind h fun as e1 vs G1 H1 r1 l1 p1 q1 => ?_)
  subst hK
  match as, vs, p1 with
  | [ev], [v], p1 =>
    have q1 : Post c G1 σ W (PT c) R ((srcOf e1 ev).bind fun s e2 => .val (enS s) e2) := q1
    obtain ⟨⟨b, a⟩, h1, ⟨xs, h2⟩, h3⟩ := src_st (Q := fun p H2 => v = .ref p.2 ∧ (∃ xs, SqA p.1 c.K H2 p.2 xs) ∧ R (ItE p.1 c.K p.2) H2) r1 p1.1
      (post_bind q1 fun s e2 p G2 H2 r2 l2 p2 q2 => ⟨p2.1, p2.2.1, q2 _ G2 H2 r2 (Gle.refl _) fun f l => turns_E (p2.2.2 f l)⟩)
    exact ⟨a, b, xs, by rw [h1], h2, h3⟩
  | [], _, _ => exact q1.elim
  | _ :: _ :: _, _, _ => exact q1.elim
  | [_], [], p1 => exact p1.elim
  | [_], _ :: _ :: _, p1 => exact p1.2.elim
def srcZ (fa : Env → Out (List EV)) : Env → Out Src := fun env => (fa env).bind fun as e1 => match as with
  | [ev, ev'] => (srcOf e1 ev).bind fun s e2 => (srcOf e2 ev').bind fun s' e3 => .val (ziS s s') e3
  | _ => .stuck
theorem sem_zipI {ta : TA} {fa : Env → Out (List EV)} (ha : SemA K mg W ta fa) : SemI K mg W (iZipM K ta) (srcZ fa) := by
  intro c G env σ H hK hm r R h
  refine ha c G env σ H hK hm r _ (post_bind h fun as e1 vs G1 H1 r1 l1 p1 q1 => ?_)
  subst hK
  match as, vs, p1 with
  | [ev, ev'], [v, v'], p1 =>
    have q1 : Post c G1 σ W (PT c) R ((srcOf e1 ev).bind fun s e2 => (srcOf e2 ev').bind fun s' e3 => .val (ziS s s') e3) := q1
    obtain ⟨⟨b, a⟩, h1, ⟨xs, h2⟩, ⟨b', a'⟩, h3, ⟨ys, h4⟩, h5⟩ := src_st (Q := fun p H2 => v = .ref p.2 ∧ (∃ xs, SqA p.1 c.K H2 p.2 xs) ∧ ∃ p' : Bool × Addr, v' = .ref p'.2 ∧ (∃ ys, SqA p'.1 c.K H2 p'.2 ys) ∧ R (ItZ p.1 p'.1 c.K p.2 p'.2) H2) r1 p1.1
      (post_bind q1 fun s e2 p G2 H2 r2 l2 p2 q2 => ⟨p2.1, p2.2.1, src_st (Q := fun p' H2 => v' = .ref p'.2 ∧ (∃ ys, SqA p'.1 c.K H2 p'.2 ys) ∧ R (ItZ p.1 p'.1 c.K p.2 p'.2) H2) r2 (p1.2.1.mono l2)
        (post_bind q2 fun s' e3 p' G3 H3 r3 l3 p3 q3 => ⟨p3.1, p3.2.1, q3 _ G3 H3 r3 (Gle.refl _) fun f l => turns_Z ((p2.2.2 f l).mono l3) (p3.2.2 f l)⟩)⟩)
    exact ⟨a, a', b, b', xs, ys, by rw [h1, h3], h2, h4, h5⟩
  | [], _, _ => exact q1.elim
  | [_], _, _ => exact q1.elim
  | _ :: _ :: _ :: _, _, _ => exact q1.elim
  | [_, _], [], p1 => exact p1.elim
  | [_, _], [_], p1 => exact p1.2.elim
  | [_, _], _ :: _ :: _ :: _, p1 => exact p1.2.2.elim
end
end DL

/-! DLF: min and sorted of texts; reversed -/
namespace DL
open PySem L2 PySem.Spec PyProof.Rows

/-! ### texts in order -/
def ltS (a b : Str) : Bool := decide (a.cps.toList < b.cps.toList)
theorem ltS_eq (a b : Str) : ltCps a.cps.toList b.cps.toList = ltS a b := ltCps_eq _ _
theorem str_ext {x y : Str} (h : x.cps.toList = y.cps.toList) : x = y := by
  obtain ⟨x⟩ := x
  obtain ⟨y⟩ := y
  exact congrArg Str.mk (Array.ext' h)
theorem ltS_irrefl (a : Str) : ltS a a = false := by
  unfold ltS
  exact decide_eq_false (List.lt_irrefl _)
theorem ltS_trans {a b c : Str} (h1 : ltS a b = true) (h2 : ltS b c = true) : ltS a c = true := by
  unfold ltS at *
  exact decide_eq_true (List.lt_trans (of_decide_eq_true h1) (of_decide_eq_true h2))
theorem ltS_total {a b : Str} (h1 : ltS a b = false) (h2 : ltS b a = false) : a = b := by
  unfold ltS at *
  have h1 := of_decide_eq_false h1
  have h2 := of_decide_eq_false h2
  exact str_ext (List.le_antisymm (List.not_lt.mp h2) (List.not_lt.mp h1))
theorem leS_trans {a b c : Str} (h1 : ltS b a = false) (h2 : ltS c b = false) : ltS c a = false := by
  cases h : ltS c a with
  | false => rfl
  | true =>
    cases h3 : ltS b c with
    | true => rw [ltS_trans h3 h] at h1; cases h1
    | false =>
      have := ltS_total h3 h2
      subst this
      rw [h] at h1
      cases h1
/-- the texts in order -/
def SortedS (l : List Str) : Prop := l.Pairwise fun a b => ltS b a = false
theorem rising_pw : ∀ {p : Str} {l : List Str}, risingS p l = true → SortedS (p :: l)
  | p, [], _ => List.pairwise_singleton ..
  | p, x :: r, h => by
    have h : (!ltCps x.cps.toList p.cps.toList && risingS x r) = true := h
    rw [Bool.and_eq_true, Bool.not_eq_true', ltS_eq] at h
    have ih := rising_pw h.2
    refine List.pairwise_cons.mpr ⟨fun y hy => ?_, ih⟩
    rcases List.mem_cons.mp hy with rfl | hy
    · exact h.1
    · exact leS_trans h.1 ((List.pairwise_cons.mp ih).1 y hy)
theorem sorted_pw : ∀ {l : List Str}, sortedS l = true → SortedS l
  | [], _ => .nil
  | _ :: _, h => rising_pw h
def insS (x : Str) : List Str → List Str
  | [] => [x]
  | y :: r => if ltS y x then y :: insS x r else x :: y :: r
def sortS (l : List Str) : List Str := l.foldr insS []
theorem insS_perm (x : Str) : ∀ l : List Str, (insS x l).Perm (x :: l)
  | [] => .refl _
  | y :: r => by
    unfold insS
    split
    · exact ((insS_perm x r).cons y).trans (.swap x y r)
    · exact .refl _
theorem sortS_perm : ∀ l : List Str, (sortS l).Perm l
  | [] => .refl _
  | x :: r => (insS_perm x (sortS r)).trans ((sortS_perm r).cons x)
theorem insS_sorted (x : Str) : ∀ {l : List Str}, SortedS l → SortedS (insS x l)
  | [], _ => List.pairwise_singleton ..
  | y :: r, h => by
    obtain ⟨h1, h2⟩ := List.pairwise_cons.mp h
    unfold insS
    split
    · rename_i hy
      refine List.pairwise_cons.mpr ⟨fun z hz => ?_, insS_sorted x h2⟩
      rcases List.mem_cons.mp ((insS_perm x r).mem_iff.mp hz) with rfl | hz
      · cases e : ltS z y with
        | false => rfl
        | true => have := ltS_trans hy e; rw [ltS_irrefl] at this; cases this
      · exact h1 z hz
    · rename_i hy
      have hy : ltS y x = false := by simpa using hy
      refine List.pairwise_cons.mpr ⟨fun z hz => ?_, h⟩
      rcases List.mem_cons.mp hz with rfl | hz
      · exact hy
      · exact leS_trans hy (h1 z hz)
theorem sortS_sorted : ∀ l : List Str, SortedS (sortS l)
  | [] => .nil
  | x :: r => insS_sorted x (sortS_sorted r)
theorem sorted_same {a b : List Str} (hp : a.Perm b) (ha : SortedS a) (hb : SortedS b) : a = b :=
  hp.eq_of_pairwise (fun x y _ _ h1 h2 => (ltS_total h2 h1)) ha hb
theorem sortedS_is {ys zs : List Str} (hp : ys.Perm zs) (h : sortedS ys = true) : ys = sortS zs :=
  sorted_same (hp.trans (sortS_perm zs).symm) (sorted_pw h) (sortS_sorted zs)
def minS (x : Str) (xs : List Str) : Str := xs.foldl (fun a y => if ltS y a then y else a) x
theorem minD_strs (x : Str) : ∀ xs : List Str, PySem.W.minD (.str x) (xs.map .str) = .str (minS x xs) := by
  intro xs
  unfold PySem.W.minD minS
  induction xs generalizing x with
  | nil => rfl
  | cons y r ih =>
    rw [List.map_cons, List.foldl_cons, List.foldl_cons, ← ih]
    congr 1
    rw [PySem.W.dataLt_str]
    show (if ltS y x = true then _ else _) = _
    split <;> rfl
theorem minS_spec (x : Str) (xs : List Str) : minS x xs ∈ x :: xs ∧ ∀ y ∈ x :: xs, ltS y (minS x xs) = false := by
  unfold minS
  induction xs generalizing x with
  | nil => exact ⟨List.mem_singleton.mpr rfl, fun y hy => by rw [List.mem_singleton.mp hy]; exact ltS_irrefl _⟩
  | cons y r ih =>
    rw [List.foldl_cons]
    by_cases h : ltS y x = true
    · rw [if_pos h]
      obtain ⟨h1, h2⟩ := ih y
      refine ⟨List.mem_cons_of_mem _ h1, fun z hz => ?_⟩
      rcases List.mem_cons.mp hz with rfl | hz
      · have hy : ltS z y = false := by
          cases e : ltS z y with
          | false => rfl
          | true => have := ltS_trans e h; rw [ltS_irrefl] at this; cases this
        exact leS_trans (h2 y (List.mem_cons_self ..)) hy
      · exact h2 z hz
    · rw [if_neg h]
      have h : ltS y x = false := by simpa using h
      obtain ⟨h1, h2⟩ := ih x
      refine ⟨?_, fun z hz => ?_⟩
      · rcases List.mem_cons.mp h1 with e | e
        · rw [e]; exact List.mem_cons_self ..
        · exact List.mem_cons_of_mem _ (List.mem_cons_of_mem _ e)
      · rcases List.mem_cons.mp hz with rfl | hz
        · exact h2 z (List.mem_cons_self ..)
        · rcases List.mem_cons.mp hz with rfl | hz
          · exact leS_trans (h2 x (List.mem_cons_self ..)) h
          · exact h2 z (List.mem_cons_of_mem _ hz)

/-! ### the calls -/
theorem reads_strs {h : Heap} : ∀ {vs : List Value} {ss : List Str}, StrsAre vs ss → ReadsAll h vs (ss.map .str) []
  | _, _, .nil => .nil
  | _, _, .cons x t r => .cons (as := []) (.str x t) (reads_strs r)
theorem alike_strs (ss : List Str) : PySem.W.AlikeAll (ss.map PyData.str) := by
  refine ⟨fun x hx y hy => ?_, fun x hx => ?_⟩
  · obtain ⟨a, _, rfl⟩ := List.mem_map.mp hx
    obtain ⟨b, _, rfl⟩ := List.mem_map.mp hy
    simp only [PySem.W.alike]
  · obtain ⟨a, _, rfl⟩ := List.mem_map.mp hx
    intro z
    cases z
theorem depth_strs : ∀ ss : List Str, PyData.depthAll (ss.map PyData.str) ≤ 1
  | [] => by simp [PyData.depthAll]
  | x :: r => by
    rw [List.map_cons]
    unfold PyData.depthAll
    have := depth_strs r
    have h : (PyData.str x).depth ≤ 1 := by simp [PyData.depth]
    omega
def SqU (K : PySem.W.Frag) (H : Hp) (a : Addr) (xs : List V) : Prop := SqL K H a xs ∨ SqT K H a xs
def rMinU (K : PySem.W.Frag) : List V → Hp → VK → Prop := fun vs H Q => ∃ a x xs, vs = [V.ref a] ∧ SqU K H a ((x :: xs).map V.str) ∧ Q (.str (minS x xs)) H
def rMinUD (K : PySem.W.Frag) : List V → List V → Hp → VK → Prop := fun vs zs H Q => ∃ a xs, vs = [V.ref a] ∧ zs = [.non] ∧ SqU K H a (xs.map V.str) ∧ Q (match xs with | [] => .non | x :: xs => .str (minS x xs)) H
section
variable {X : Cx}
theorem str_of_reads {h : Heap} {v : Value} {x : Str} {as : List Addr} (r : Reads h v (.str x) as) : ∃ t, v = .str x t := by
  cases r
  exact ⟨_, rfl⟩
theorem cr_minU (hc : X.calm = true) (hu : X.A.units + 64 < cLine) : CallR X (.builtin "min") (rMinU X.K) := by
  intro pins s σ H vs us Q I r h
  obtain ⟨a, x, xs, rfl, hs, q⟩ := h
  rw [Vals.ref1 r]
  have hd : PyData.depthAll ((x :: xs).map PyData.str) ≤ 1 := depth_strs _
  rcases hs with hs | hs
  · obtain ⟨its, rv, hl, _⟩ := I.list hs
    refine PySem.W.min_list_data (x := .str x) (xs := xs.map .str) (I.ok.hd hc) hl.isList (reads_strs (ss := x :: xs) rv.strs) (alike_strs (x :: xs)) (by have e : (x :: xs).map PyData.str = PyData.str x :: xs.map .str := rfl; rw [e] at hd; omega) fun i v h' tk bs hv hr hk => ?_
    rw [minD_strs] at hr
    obtain ⟨t, rfl⟩ := str_of_reads hr
    exact ⟨.str (minS x xs), H, I.kept hk, ⟨_, rfl⟩, q⟩
  · obtain ⟨its, rv, hl, _⟩ := I.tuple hs
    refine PySem.W.min_tuple_data (x := .str x) (xs := xs.map .str) (I.ok.hd hc) (show s.heap.IsTuple a its.toArray from hl) (reads_strs (ss := x :: xs) rv.strs) (alike_strs (x :: xs)) (by have e : (x :: xs).map PyData.str = PyData.str x :: xs.map .str := rfl; rw [e] at hd; omega) fun i v h' tk bs hv hr hk => ?_
    rw [minD_strs] at hr
    obtain ⟨t, rfl⟩ := str_of_reads hr
    exact ⟨.str (minS x xs), H, I.kept hk, ⟨_, rfl⟩, q⟩
theorem crk_minU (hc : X.calm = true) (hu : X.A.units + 64 < cLine) : CallRK X (.builtin "min") [Str.ofString "default"] (rMinUD X.K) := by
  intro pins s σ H vs zs us ws Q I r rz h
  obtain ⟨a, xs, rfl, rfl, hs, q⟩ := h
  rw [Vals.ref1 r]
  have hd : PyData.depthAll (xs.map PyData.str) ≤ 1 := depth_strs _
  cases rz with
  | cons r1 r2 =>
    cases r2
    cases r1
    show wpAny _ _ (call (.builtin "min") [.ref a] [(Str.ofString "default", .none)]) _ _ _
    rcases hs with hs | hs
    · obtain ⟨its, rv, hl, _⟩ := I.list hs
      refine PySem.W.min_list_default (xs := xs.map .str) (I.ok.hd hc) hl.isList (reads_strs rv.strs) (alike_strs xs) (by omega) (fun e h' tk hk => ?_) fun y ys i v h' tk bs e hv hr hk => ?_
      · cases xs with
        | nil => exact ⟨.non, H, I.kept hk, rfl, q⟩
        | cons x r => cases e
      · cases xs with
        | nil => cases e
        | cons x r =>
          cases e
          have hr : Reads h' v (PySem.W.minD (.str x) (r.map .str)) bs := hr
          rw [minD_strs] at hr
          obtain ⟨t, rfl⟩ := str_of_reads hr
          exact ⟨.str (minS x r), H, I.kept hk, ⟨_, rfl⟩, q⟩
    · obtain ⟨its, rv, hl, _⟩ := I.tuple hs
      refine PySem.W.min_tuple_default (xs := xs.map .str) (I.ok.hd hc) (show s.heap.IsTuple a its.toArray from hl) (reads_strs rv.strs) (alike_strs xs) (by omega) (fun e h' tk hk => ?_) fun y ys i v h' tk bs e hv hr hk => ?_
      · cases xs with
        | nil => exact ⟨.non, H, I.kept hk, rfl, q⟩
        | cons x r => cases e
      · cases xs with
        | nil => cases e
        | cons x r =>
          cases e
          have hr : Reads h' v (PySem.W.minD (.str x) (r.map .str)) bs := hr
          rw [minD_strs] at hr
          obtain ⟨t, rfl⟩ := str_of_reads hr
          exact ⟨.str (minS x r), H, I.kept hk, ⟨_, rfl⟩, q⟩
/-- sorted of texts: a list, a tuple, a dict's keys -/
def rSortU (K : PySem.W.Frag) : List V → Hp → VK → Prop := fun vs H Q => ∃ (a : Addr) (zs : List Str), vs = [V.ref a] ∧ zs.length < 64 ∧ (SqU K H a (zs.map V.str) ∨ ∃ kvs, Rd H a (.dK kvs) ∧ kvs.map (·.1) = zs.map Sum.inr) ∧
  ∀ p, H p = none → Q (.ref p) (upd H p (.lst ((sortS zs).map V.str)))
theorem cr_sortedU (hc : X.calm = true) : CallR X (.builtin "sorted") (rSortU X.K) := by
  intro pins s σ H xs us Q I r q
  obtain ⟨a, zs, ex, h64, hs, q⟩ := q
  rcases hs with (hs | hs) | hs
  · exact cr_sortedS pins s σ H xs us Q I r ⟨a, zs, ex, hs, h64, fun ys p h1 h2 h3 => by rw [sortedS_is h1 h2]; exact q p h3⟩
  · subst ex
    rw [Vals.ref1 r]
    obtain ⟨its, rv, hl, hz⟩ := I.tuple hs
    have hS := rv.strs
    have hlen0 := rv.length
    rw [List.length_map] at hlen0
    have h64' : its.length < 64 := by rw [← hlen0]; exact h64
    obtain ⟨o, ho, hcl, n, hd⟩ := hl
    refine Calls.call_function_entry PyProof.Rows.kind_sorted PyProof.Rows.plain_sorted PyProof.Rows.entry_sorted (PyProof.Rows.args_sorted1 _) ?_
    unfold Builtin.«sorted»
    refine wpAny_bind (m := checkCount "sorted" 1 1 _) (wpAny_pure ?_)
    refine wpAny_bind (wpAny_collect_seq a (.inr rfl) ho hcl hd (fun h' hk => ?_) (by rw [List.size_toArray]; exact small64 h64'))
    have I1 : Inv X pins σ H { s with heap := h' } := I.kept (t' := s.toks) hk
    refine wpAny_bind (wpAny_newList ?_ (small64 h64'))
    have hoL : (h'.push (seqObj "list" its.toArray 0)).get? h'.objs.size = some (seqObj "list" its.toArray 0) := Heap.get?_push_size _ rfl
    show wpAny _ _ _ _ _ { s with heap := h'.push (seqObj "list" its.toArray 0) }
    refine wpAny_bind (wpAny_holding (wpAny_call_entry PyProof.Rows.slot_list_sort ⟨_, hoL, rfl⟩ PyProof.Rows.entry_list_sort
      (list_sort_treeK strKind_oneLt (s := { s with heap := h'.push (seqObj "list" its.toArray 0) }) hoL hS.keysOf (fun v₁ v₂ rest e => keyKind_strs (by rw [← e]; exact hS)) h64' fun st' hp hs => ⟨_, rfl, ?_⟩)
      (PyProof.Rows.args_list_sort _)))
    obtain ⟨ys, g1, g2, g3⟩ := sorted_out_str hS hp hs
    obtain ⟨e', he'⟩ := PyProof.Rows.sortedHeap_at (vs := its) (out := (arrOf st').map (·.2)) hoL
    obtain rfl := sortedS_is g2 g3
    have hlen : ((sortS zs).map V.str).length ≤ sizeLine := by
      rw [List.length_map, g2.length_eq]
      exact small64 h64
    refine wpAny_pure ⟨_, rfl, .ref h'.objs.size, upd H h'.objs.size (.lst ((sortS zs).map V.str)), I1.laid (t' := s.toks) (fun b u e => ?_) (Nat.le_refl _)
      (show ObjOk X.prog X.w _ _ _ (.lst ((sortS zs).map V.str)) from ⟨hlen, ((arrOf st').map (·.2)).toList, e', vals_of_strs g1, by rw [Array.toArray_toList]; exact he'⟩), rfl, q _ (I1.hok.fresh (Nat.le_refl _))⟩
    have hb : b < h'.objs.size := Heap.lt_size e
    rw [PyProof.Rows.sortedHeap_old (Nat.ne_of_lt hb) (by rw [size_push']; exact Nat.lt_succ_of_lt hb)]
    exact Heap.get?_push_of_some _ e
  · obtain ⟨kvs, h1, h2⟩ := hs
    exact call_sortedD hc pins s σ H xs us Q I r ⟨a, kvs, zs, ex, h1, h2, h64, fun ys p h1 h2 h3 => by rw [sortedS_is h1 h2]; exact q p h3⟩
end

/-! ### their plain functions -/
def keysD : List (Key × D) → Option (List Str)
  | [] => some []
  | (.inr x, _) :: ds => (keysD ds).map (x :: ·)
  | _ :: _ => none
section
variable {K : PySem.W.Frag} {mg : MX} {W : WX}
theorem RK.strs {G : Hp} : ∀ {ds : List (Key × D)} {vs : List (Key × V)} {zs : List Str}, RK K G vs ds → keysD ds = some zs → vs.map (·.1) = zs.map Sum.inr
  | _, _, _, .nil, e => by
    cases e
    rfl
  | _, _, _, .cons (k := k) r t, e => by
    cases k with
    | inr x =>
      obtain ⟨ys, h1, rfl⟩ := Option.map_eq_some_iff.mp e
      rw [List.map_cons, List.map_cons, t.strs h1]
    | inl i => cases e
theorem RA.strsE {G : Hp} {ds : List D} {vs : List V} {zs : List Str} (h : RA K G vs ds) (e : strsD ds = some zs) : vs = zs.map V.str := by
  rw [strsD_eq e] at h
  exact h.strs
/-- the texts of a list or a tuple -/
def textsD : D → Option (List Str)
  | .lst ds | .tup ds | .frl ds => strsD ds
  | _ => none
theorem textsD_ok {G H : Hp} {v : V} {d : D} {zs : List Str} (s : Sub G H) (h : S K G H v d) (e : textsD d = some zs) : ∃ a, v = .ref a ∧ SqU K H a (zs.map V.str) := by
  unfold textsD at e
  split at e
  · obtain ⟨a, xs, rfl, h1, h2⟩ := h.l s
    exact ⟨a, rfl, .inl (by rw [← h2.strsE e]; exact SqL.of h1)⟩
  · obtain ⟨a, xs, rfl, _, h1, h2⟩ := h.t s
    exact ⟨a, rfl, .inr (by rw [← h2.strsE e]; exact h1)⟩
  · obtain ⟨a, xs, rfl, h1, h2⟩ := h.f s
    exact ⟨a, rfl, .inl (by rw [← h2.strsE e]; exact h1)⟩
  · cases e
def gMinU : List D → Option EV
  | [d] => match textsD d with
    | some (x :: xs) => some (.dat (.str (minS x xs)))
    | _ => none
  | _ => none
theorem cs_minU : CallSem K (rMinU K) gMinU := by
  intro c G env σ H xs ds ev hK r hs he Q hQ
  subst hK
  unfold gMinU at he
  split at he
  · rename_i d
    split at he
    · rename_i x zs hz
      cases he
      cases hs with
      | cons h1 h2 =>
        cases h2
        obtain ⟨a, rfl, h3⟩ := textsD_ok r.sub h1 hz
        exact ⟨a, x, zs, rfl, h3, hQ _ G H r (Gle.refl G) (.str _)⟩
    · cases he
  · cases he
def gSortU : List D → Option EV
  | [.dic kvs] => match keysD kvs with
    | some zs => if zs.length < 64 then some (.new (.lst ((sortS zs).map .str))) else none
    | none => none
  | [d] => match textsD d with
    | some zs => if zs.length < 64 then some (.new (.lst ((sortS zs).map .str))) else none
    | none => none
  | _ => none
theorem RA.ofStrs {G : Hp} : ∀ zs : List Str, RA K G (zs.map V.str) (zs.map D.str)
  | [] => .nil
  | x :: r => .cons (.str x) (RA.ofStrs r)
theorem cs_sortU : CallSem K (rSortU K) gSortU := by
  intro c G env σ H xs ds ev hK r hs he Q hQ
  subst hK
  unfold gSortU at he
  split at he
  · split at he
    · rename_i kvs zs hz
      split at he
      · rename_i h64
        cases he
        cases hs with
        | cons h1 h2 =>
          cases h2
          obtain ⟨a, vs, rfl, h3, h4⟩ := h1.d r.sub
          exact ⟨a, zs, rfl, h64, .inr ⟨vs, h3, h4.strs hz⟩, fun p hp => hQ _ G _ (r.newT hp) (Gle.refl G) (r.newlst (RA.ofStrs _) hp)⟩
      · cases he
    · cases he
  · rename_i d _
    split at he
    · rename_i zs hz
      split at he
      · rename_i h64
        cases he
        cases hs with
        | cons h1 h2 =>
          cases h2
          obtain ⟨a, rfl, h3⟩ := textsD_ok r.sub h1 hz
          exact ⟨a, zs, rfl, h64, .inl h3, fun p hp => hQ _ G _ (r.newT hp) (Gle.refl G) (r.newlst (RA.ofStrs _) hp)⟩
      · cases he
    · cases he
  · cases he
/-- a built-in called with keywords -/
def CallSemK (K : PySem.W.Frag) (r : List V → List V → Hp → VK → Prop) (g : List D → List D → Option EV) : Prop := ∀ c G env σ H xs zs ds es ev, c.K = K → Rel c G env σ H → Paired (S c.K G H) xs ds → Paired (S c.K G H) zs es → g ds es = some ev →
  ∀ Q : VK, (∀ v G' H', Rel c G' env σ H' → Gle G G' → RV c G' env σ H' v ev → Q v H') → r xs zs H Q
def eCBK (g : List D → List D → Option EV) (fa fk : Env → Out (List EV)) : Env → Out EV := fun env => (fa env).bind fun as e1 => (fk e1).bind fun ks e2 => Out.of ((conts e2 as).bind fun ds => (conts e2 ks).bind fun es => g ds es) e2
theorem sem_cBK {r : List V → List V → Hp → VK → Prop} {g : List D → List D → Option EV} {ta tk : TA} {fa fk : Env → Out (List EV)} (hr : CallSemK K r g) (ha : SemA K mg W ta fa) (hk : SemA K mg W tk fk) : SemE K mg W (tCKw r ta tk) (eCBK g fa fk) := by
  intro c G env σ H hK hm r0 Q hQ
  refine ha c G env σ H hK hm r0 _ (post_bind hQ fun as e1 vs G1 H1 r1 l1 p1 q1 => ?_)
  refine hk c G1 e1 σ H1 hK hm r1 _ (post_bind q1 fun ks e2 zs G2 H2 r2 l2 p2 q2 => ?_)
  obtain ⟨ev, he, q⟩ := post_of q2
  obtain ⟨ds, h1, he⟩ := Option.bind_eq_some_iff.mp he
  obtain ⟨es, h2, he⟩ := Option.bind_eq_some_iff.mp he
  exact hr c G2 e2 σ H2 vs zs ds es ev hK r2 (r2.reads (RDs.mono l2 p1) h1) (r2.reads p2 h2) he Q q
def gMinD : List D → List D → Option EV
  | [d], [.non] => match textsD d with
    | some [] => some (.dat .non)
    | some (x :: xs) => some (.dat (.str (minS x xs)))
    | none => none
  | _, _ => none
theorem cs_minD : CallSemK K (rMinUD K) gMinD := by
  intro c G env σ H xs zs ds es ev hK r hs hz he Q hQ
  subst hK
  unfold gMinD at he
  split at he
  · rename_i d
    cases hs with
    | cons h1 h2 =>
      cases h2
      cases hz with
      | cons k1 k2 =>
        cases k2
        split at he
        · rename_i hz
          cases he
          obtain ⟨a, rfl, h3⟩ := textsD_ok r.sub h1 hz
          exact ⟨a, [], rfl, by rw [k1.n], h3, hQ _ G H r (Gle.refl G) .non⟩
        · rename_i x zs hz
          cases he
          obtain ⟨a, rfl, h3⟩ := textsD_ok r.sub h1 hz
          exact ⟨a, x :: zs, rfl, by rw [k1.n], h3, hQ _ G H r (Gle.refl G) (.str _)⟩
        · cases he
  · cases he

/-! ### reversed -/
def reS (s : Src) : Src := ⟨s.n, s.ok, fun env i => s.it env (s.n - 1 - i)⟩
theorem turns_R {c : Ctx} {G : Hp} {a : Addr} {s : Src} (h : Steady c G true a s) : Turns c G (Itv c.K a s.n) (reS s) := by
  refine ⟨fun i G1 env σ H d r l hi hd => ?_, fun G1 env σ H r l hok => Nat.le_refl _⟩
  have hi : i < s.n := hi
  obtain ⟨xs, v, h1, h2, h3⟩ := h.get (s.n - 1 - i) G1 env σ H d r l (by omega) hd
  refine ⟨⟨hi, xs, v, h1, h2⟩, fun x H' y => ?_⟩
  obtain ⟨rfl, y⟩ := y
  have := y xs h1
  rw [h2] at this
  cases this
  exact ⟨G1, r, Gle.refl _, h3⟩
theorem turns_RT {c : Ctx} {G : Hp} {a : Addr} {s : Src} (h : Steady c G false a s) : Turns c G (RT.ItvT c.K a s.n) (reS s) := by
  refine ⟨fun i G1 env σ H d r l hi hd => ?_, fun G1 env σ H r l hok => Nat.le_refl _⟩
  have hi : i < s.n := hi
  obtain ⟨xs, v, h1, h2, h3⟩ := h.get (s.n - 1 - i) G1 env σ H d r l (by omega) hd
  refine ⟨⟨hi, xs, v, h1, h2⟩, fun x H' y => ?_⟩
  obtain ⟨rfl, y⟩ := y
  have := y xs h1
  rw [h2] at this
  cases this
  exact ⟨G1, r, Gle.refl _, h3⟩
def srcRev (fl : Env → Out EV) : Env → Out Src := fun env => (fl env).bind fun ev e1 => (srcOf e1 ev).bind fun s e2 => if s.ok e2 then .val (reS s) e2 else .stuck
theorem Rel.refr {c : Ctx} {G H : Hp} {env : Env} {σ : L2.St} (r : Rel c G env σ H) : Rel { c with fr := c.fr, lk := c.lk } G env σ H := r
theorem sem_revI {tl : TE} {fl : Env → Out EV} (hl : SemD K mg W tl fl) : SemI K mg W (RT.iRevA K tl) (srcRev fl) := by
  intro c G env σ H hK hm r R h
  refine hl c G env σ H hK hm r _ (post_bind h fun ev e1 v G1 H1 r1 l1 p1 q1 => ?_)
  subst hK
  have q1 : Post c G1 σ W (PT c) R ((srcOf e1 ev).bind fun s e2 => if s.ok e2 = true then .val (reS s) e2 else .stuck) := q1
  obtain ⟨⟨b, a⟩, h1, xs, h2⟩ := src_st (Q := fun p H2 => v = .ref p.2 ∧ ∃ xs, (p.1 = true ∧ SqL c.K H2 p.2 xs ∧ R (Itv c.K p.2 xs.length) H2) ∨ (p.1 = false ∧ SqT c.K H2 p.2 xs ∧ R (RT.ItvT c.K p.2 xs.length) H2)) r1 p1
    (post_bind q1 fun s e2 p G2 H2 r2 l2 p2 q2 => by
      by_cases hok : s.ok e2 = true
      · rw [if_pos hok] at q2
        obtain ⟨b, a⟩ := p
        obtain ⟨xs, h4, h5⟩ := (p2.2.2 c.fr c.lk).len G2 e2 σ H2 r2 (Gle.refl _) hok
        cases b with
        | true => exact ⟨p2.1, xs, .inl ⟨rfl, h4, q2 _ G2 H2 r2 (Gle.refl _) fun f l => by rw [h5]; exact turns_R (p2.2.2 f l)⟩⟩
        | false => exact ⟨p2.1, xs, .inr ⟨rfl, h4, q2 _ G2 H2 r2 (Gle.refl _) fun f l => by rw [h5]; exact turns_RT (p2.2.2 f l)⟩⟩
      · rw [if_neg hok] at q2
        exact q2.elim)
  rcases h2 with ⟨_, h2, h3⟩ | ⟨_, h2, h3⟩
  · exact ⟨a, xs, h1, .inl ⟨h2, h3⟩⟩
  · exact ⟨a, xs, h1, .inr ⟨h2, h3⟩⟩
end
end DL

/-! DLG: walks over a dict that is locked meanwhile -/
namespace DL
open PySem L2 PySem.Spec PyProof.Rows

/-! ### the loops, behind their source -/
def ForR (g : TG) (tb : TS) (D : Ends) (σ : L2.St) : It → Hp → Prop := fun J H1 => ∃ W : Nat → Nat → L2.St → Hp → Prop, (∃ m, W 0 m σ H1) ∧ ∀ i m σ H, W i m σ H →
  (J.stop i H ∧ D.nx σ H) ∨ (J.go i H ∧ ∃ N : L2.St → Hp → Prop, (∀ σ' H', N σ' H' → ∃ m', m' < m ∧ W (i + 1) m' σ' H') ∧ ∀ x H', J.yld i H x H' → g x σ H' fun σ2 H2 => tb { D with nx := N, ct := N, bk := D.nx } σ2 H2)
def LcR (g : TG) (tt : TT) (te : TE) (vs : List Nat) (σ : L2.St) (Q : VK) : It → Hp → Prop := fun J H1 => ∀ D, H1 D = none → ∃ W : Nat → Nat → Hp → Prop, (∃ m, W 0 m (upd H1 D (.lst []))) ∧ ∀ i m H, W i m H →
  (J.stop i H ∧ Q (.ref D) H) ∨ (J.go i H ∧ ∃ Nx : Hp → Prop, (∀ H', Nx H' → ∃ m', m' < m ∧ W (i + 1) m' H') ∧ ∀ x H', J.yld i H x H' → g x (L2.wipe σ vs) H' fun σ2 H2 => L2.wipe σ2 vs = L2.wipe σ vs ∧ tt σ2 H2 fun b H3 =>
    if b = true then te σ2 H3 fun y H4 => ∃ acc, H4 D = some (.lst acc) ∧ acc.length < sizeLine ∧ Nx (upd H4 D (.lst (acc ++ [y]))) else Nx H3)
section
variable {K : PySem.W.Frag} {mg : MX} {W : WX}
theorem for_go {g : TG} {tb : TS} {f : EV → Env → OutS} {F : Env → OutS} (hg : SemG K mg W g f) (hx : ∀ ev env, (∃ e, f ev env = .next e) ∨ f ev env = .stuck) (hb : SemS K mg W tb F)
    {c : Ctx} {G1 : Hp} {e1 : Env} {σ : L2.St} {H1 : Hp} {D : Ends} {s : Src} {J : It} (hK : c.K = K) (hm : (c.mg, c.xa) = mg) (r1 : Rel c G1 e1 σ H1) (T : Turns c G1 J s) (q1 : PostS c G1 W D (loopF s f F s.n e1)) : ForR g tb D σ J H1 := by
  refine ⟨fun i m σ' H' => m = s.n - i ∧ i ≤ s.n ∧ ∃ G' env', Rel c G' env' σ' H' ∧ Gle G1 G' ∧ PostS c G' W D (loopF s f F m env'), ⟨s.n, by simp, Nat.zero_le _, G1, e1, r1, Gle.refl _, q1⟩, ?_⟩
  rintro i m σ' H' ⟨rfl, hi2, G2, e2, r2, l2, q2⟩
  cases hm2 : s.n - i with
  | zero =>
    have e0 : i = s.n := by omega
    subst e0
    rw [hm2] at q2
    have q2 : PostS c G2 W D (if s.ok e2 = true then .next e2 else .stuck) := q2
    by_cases hok : s.ok e2 = true
    · rw [if_pos hok] at q2
      exact .inl ⟨T.stop G2 e2 σ' H' r2 l2 hok, q2 σ' G2 H' r2 (Gle.refl _)⟩
    · rw [if_neg hok] at q2
      exact q2.elim
  | succ k =>
    have e0 : s.n - (k + 1) = i := by omega
    have hlt : i < s.n := by omega
    rw [hm2] at q2
    have q2 : PostS c G2 W D (match s.it e2 (s.n - (k + 1)) with
      | none => .stuck
      | some d => match (f (.dat d) e2).bind F with
        | .next e => loopF s f F k e
        | .cnt e => loopF s f F k e
        | .brk e => .next e
        | o => o) := q2
    rw [e0] at q2
    cases hd : s.it e2 i with
    | none =>
      rw [hd] at q2
      exact q2.elim
    | some d =>
      rw [hd] at q2
      obtain ⟨hgo, hy⟩ := T.go i G2 e2 σ' H' d r2 l2 hlt hd
      refine .inr ⟨hgo, fun σ3 H3 => ∃ G' env', Rel c G' env' σ3 H3 ∧ Gle G1 G' ∧ PostS c G' W D (loopF s f F k env'), fun σ3 H3 w => ⟨k, by omega, by omega, by omega, w⟩, fun x H3 y => ?_⟩
      obtain ⟨G3, r3, l3, p3⟩ := hy x H3 y
      refine hg c G3 e2 σ' H3 x (.dat d) _ hK hm r3 p3 ?_
      have q2 : PostS c G2 W D (match (f (.dat d) e2).bind F with
        | .next e => loopF s f F k e
        | .cnt e => loopF s f F k e
        | .brk e => .next e
        | o => o) := q2
      rcases hx (.dat d) e2 with ⟨e4, z⟩ | z
      · rw [z] at q2 ⊢
        intro σ4 G4 H4 r4 l4
        refine hb c G4 e4 σ4 H4 _ hK hm r4 ?_
        have q2 : PostS c G2 W D (match F e4 with
          | .next e => loopF s f F k e
          | .cnt e => loopF s f F k e
          | .brk e => .next e
          | o => o) := q2
        have L4 : Gle G2 G4 := l3.trans l4
        cases he : F e4 with
        | next e =>
          rw [he] at q2
          exact fun σ5 G5 H5 r5 l5 => ⟨G5, e, r5, ((l2.trans L4).trans l5), q2.imp (L4.trans l5) (fun _ _ z => z) (fun _ _ z => z) (fun _ _ z => z) fun _ _ z => z⟩
        | cnt e =>
          rw [he] at q2
          exact fun σ5 G5 H5 r5 l5 => ⟨G5, e, r5, ((l2.trans L4).trans l5), q2.imp (L4.trans l5) (fun _ _ z => z) (fun _ _ z => z) (fun _ _ z => z) fun _ _ z => z⟩
        | brk e =>
          rw [he] at q2
          exact fun σ5 G5 H5 r5 l5 => q2 σ5 G5 H5 r5 (L4.trans l5)
        | ret v e =>
          rw [he] at q2
          exact fun v σ5 G5 H5 r5 l5 p5 => q2 v σ5 G5 H5 r5 (L4.trans l5) p5
        | exc x fs e =>
          rw [he] at q2
          exact fun cls d σ5 G5 H5 r5 l5 p5 => q2 cls d σ5 G5 H5 r5 (L4.trans l5) p5
        | stuck =>
          rw [he] at q2
          exact q2
      · rw [z] at q2
        exact q2.elim
theorem lc_go {g : TG} {tt : TT} {te : TE} {vs : List Nat} {f : EV → Env → OutS} {ft : Env → Out Bool} {fe : Env → Out EV} {W0 : WX} (hg : SemG K mg W0 g f) (hk : Keeps g vs) (ht : SemT K mg W0 tt ft) (he : SemE K mg W0 te fe)
    {c : Ctx} {G1 : Hp} {e1 : Env} {σ : L2.St} {H1 : Hp} {Q : VK} {s : Src} {J : It} (hK : c.K = K) (hm : (c.mg, c.xa) = mg) (r1 : Rel c G1 e1 σ H1) (p1 : ∀ f, Turns { c with fr := f } G1 J s)
    (q1 : Post c G1 σ W (PV c σ) Q (if wipable e1 vs then loopC s f ft fe vs s.n [] (wipeE e1 vs) else .stuck)) : LcR g tt te vs σ Q J H1 := by
  have q1 : Post c G1 σ W (PV c σ) Q (if wipable e1 vs = true then loopC s f ft fe vs s.n [] (wipeE e1 vs) else .stuck) := q1
  by_cases hw : wipable e1 vs = true
  · rw [if_pos hw] at q1
    intro Dl hD
    have h0 : c.H0 Dl = none := r1.fresh0 hD
    have hf : c.fr Dl = none := r1.nofr hD
    refine ⟨fun i m H' => m = s.n - i ∧ i ≤ s.n ∧ ∃ G' e' xs ds, Rel (c.ext Dl (.lst xs)) G' (wipeE e' vs) (L2.wipe σ vs) H' ∧ Gle G1 G' ∧ RA c.K G' xs ds ∧ Post c G' σ W (PV c σ) Q (loopC s f ft fe vs m ds (wipeE e' vs)),
      ⟨s.n, by simp, Nat.zero_le _, G1, e1, [], [], (r1.wipe hw).ext hD, Gle.refl _, .nil, q1⟩, ?_⟩
    rintro i m H' ⟨rfl, hi2, G2, e2, xs, ds, r2, l2, ra, q2⟩
    have T : Turns (c.ext Dl (.lst xs)) G1 J s := p1 _
    cases hm2 : s.n - i with
    | zero =>
      have e0 : i = s.n := by omega
      subst e0
      rw [hm2] at q2
      have q2 : Post c G2 σ W (PV c σ) Q (if s.ok (wipeE e2 vs) = true then .val (.new (.lst ds)) (wipeE e2 vs) else .stuck) := q2
      by_cases hok : s.ok (wipeE e2 vs) = true
      · rw [if_pos hok] at q2
        refine .inl ⟨T.stop G2 _ _ H' r2 l2 hok, ?_⟩
        obtain ⟨hq, hg2, hs⟩ := r2.frs Dl (.lst xs) (if_pos rfl)
        refine q2 _ G2 H' (r2.unext hf).unwipe (Gle.refl _) ⟨Dl, rfl, h0, hg2, ⟨xs, hq, ra⟩, fun j d hj hsj => ?_, hf⟩
        have r3 := (r2.unext hf).unwipe
        have : (L2.wipe σ vs)[j]? = some (some (.ref Dl)) := by
          rw [wipe_get]
          by_cases hv : j ∈ vs
          · rw [wipeE_get, if_pos hv] at hj
            split at hj <;> cases hj
          · rw [if_neg hv]
            exact hsj
        exact hs j d (.inl hj) this
      · rw [if_neg hok] at q2
        exact q2.elim
    | succ k =>
      have e0 : s.n - (k + 1) = i := by omega
      have hlt : i < s.n := by omega
      rw [hm2] at q2
      unfold loopC at q2
      rw [e0] at q2
      cases hd : s.it (wipeE e2 vs) i with
      | none =>
        rw [hd] at q2
        exact q2.elim
      | some d =>
        rw [hd] at q2
        obtain ⟨hgo, hy⟩ := T.go i G2 _ _ H' d r2 l2 hlt hd
        refine .inr ⟨hgo, fun H3 => ∃ G' e' xs ds, Rel (c.ext Dl (.lst xs)) G' (wipeE e' vs) (L2.wipe σ vs) H3 ∧ Gle G1 G' ∧ RA c.K G' xs ds ∧ Post c G' σ W (PV c σ) Q (loopC s f ft fe vs k ds (wipeE e' vs)),
          fun H3 w => ⟨k, by omega, by omega, by omega, w⟩, fun x H3 y => ?_⟩
        obtain ⟨G3, r3, l3, p3⟩ := hy x H3 y
        have q2 : Post c G2 σ W (PV c σ) Q (match f (.dat d) (wipeE e2 vs) with
          | .next e1 => match ft e1 with
            | .val false e2 => if wipable e2 vs then loopC s f ft fe vs k ds (wipeE e2 vs) else .stuck
            | .val true e2 => match fe e2 with
              | .val ev e3 => match freeze e3 ev with
                | some (d, e4) => if ds.length < sizeLine ∧ wipable e4 vs = true then loopC s f ft fe vs k (ds ++ [d]) (wipeE e4 vs) else .stuck
                | none => .stuck
              | _ => .stuck
            | _ => .stuck
          | _ => .stuck) := q2
        cases hfd : f (.dat d) (wipeE e2 vs) with
        | next e4 =>
          rw [hfd] at q2
          have q2 : Post c G2 σ W (PV c σ) Q (match ft e4 with
            | .val false e2 => if wipable e2 vs then loopC s f ft fe vs k ds (wipeE e2 vs) else .stuck
            | .val true e2 => match fe e2 with
              | .val ev e3 => match freeze e3 ev with
                | some (d, e4) => if ds.length < sizeLine ∧ wipable e4 vs = true then loopC s f ft fe vs k (ds ++ [d]) (wipeE e4 vs) else .stuck
                | none => .stuck
              | _ => .stuck
            | _ => .stuck) := q2
          have ww : L2.wipe (L2.wipe σ vs) vs = L2.wipe σ vs := wipe_wipe σ vs
          have key := hk x (L2.wipe σ vs) H3 (fun σ2 H2 => tt σ2 H2 fun b H3' => if b = true then te σ2 H3' fun y H4 => ∃ acc, H4 Dl = some (.lst acc) ∧ acc.length < sizeLine ∧ (∃ G' e' xs ds, Rel (c.ext Dl (.lst xs)) G' (wipeE e' vs) (L2.wipe σ vs) (upd H4 Dl (.lst (acc ++ [y]))) ∧ Gle G1 G' ∧ RA c.K G' xs ds ∧ Post c G' σ W (PV c σ) Q (loopC s f ft fe vs k ds (wipeE e' vs)))
              else ∃ G' e' xs ds, Rel (c.ext Dl (.lst xs)) G' (wipeE e' vs) (L2.wipe σ vs) H3' ∧ Gle G1 G' ∧ RA c.K G' xs ds ∧ Post c G' σ W (PV c σ) Q (loopC s f ft fe vs k ds (wipeE e' vs)))
            (hg (c.ext Dl (.lst xs)) G3 (wipeE e2 vs) (L2.wipe σ vs) H3 x (.dat d) _ hK hm r3 p3 (by
              rw [hfd]
              intro σ4 G4 H4 r4 l4 hwi
              rw [ww] at hwi
              refine ht (c.ext Dl (.lst xs)) G4 e4 σ4 H4 hK hm r4 _ ?_
              cases hft : ft e4 with
              | val b e5 =>
                rw [hft] at q2
                intro b' G5 H5 r5 l5 hb
                obtain rfl : b = b' := hb
                have L5 : Gle G2 G5 := (l3.trans l4).trans l5
                cases b with
                | false =>
                  have q2 : Post c G2 σ W (PV c σ) Q (if wipable e5 vs then loopC s f ft fe vs k ds (wipeE e5 vs) else .stuck) := q2
                  by_cases h5 : wipable e5 vs = true
                  · rw [if_pos h5] at q2
                    refine ⟨G5, e5, xs, ds, ?_, l2.trans L5, ra.mono L5.sub, ?_⟩
                    · rw [← hwi]
                      exact r5.wipe h5
                    · exact post_le q2 L5
                  · rw [if_neg h5] at q2
                    exact q2.elim
                | true =>
                  have q2 : Post c G2 σ W (PV c σ) Q (match fe e5 with
                    | .val ev e3 => match freeze e3 ev with
                      | some (d, e4) => if ds.length < sizeLine ∧ wipable e4 vs = true then loopC s f ft fe vs k (ds ++ [d]) (wipeE e4 vs) else .stuck
                      | none => .stuck
                    | _ => .stuck) := q2
                  show te σ4 H5 _
                  refine he (c.ext Dl (.lst xs)) G5 e5 σ4 H5 hK hm r5 _ ?_
                  cases hfe : fe e5 with
                  | val ev e6 =>
                    rw [hfe] at q2
                    intro y G6 H6 r6 l6 p6
                    have p6 : RV (c.ext Dl (.lst xs)) G6 e6 σ4 H6 y ev := p6
                    have q2 : Post c G2 σ W (PV c σ) Q (match freeze e6 ev with
                      | some (d, e4) => if ds.length < sizeLine ∧ wipable e4 vs = true then loopC s f ft fe vs k (ds ++ [d]) (wipeE e4 vs) else .stuck
                      | none => .stuck) := q2
                    cases hfr : freeze e6 ev with
                    | none =>
                      rw [hfr] at q2
                      exact q2.elim
                    | some z =>
                      obtain ⟨d7, e7⟩ := z
                      rw [hfr] at q2
                      have q2 : Post c G2 σ W (PV c σ) Q (if ds.length < sizeLine ∧ wipable e7 vs = true then loopC s f ft fe vs k (ds ++ [d7]) (wipeE e7 vs) else .stuck) := q2
                      obtain ⟨G7, r7, l7, p7⟩ := r6.freeze p6 hfr
                      have L7 : Gle G2 G7 := (L5.trans l6).trans l7
                      have ra7 : RA c.K G7 xs ds := ra.mono L7.sub
                      by_cases h7 : ds.length < sizeLine ∧ wipable e7 vs = true
                      · rw [if_pos h7] at q2
                        obtain ⟨hq7, hg7, hs7⟩ := r7.frs Dl (.lst xs) (if_pos rfl)
                        refine ⟨xs, hq7, by rw [ra7.length]; exact h7.1, G7, e7, xs ++ [y], ds ++ [d7], ?_, l2.trans L7, ra7.append (.cons p7 .nil), post_le q2 L7⟩
                        have r8 := (r7.wipe h7.2).reext (o' := .lst (xs ++ [y])) h0 (fun _ _ => trivial) ⟨xs, rfl⟩
                        rw [hwi] at r8
                        exact r8
                      · rw [if_neg h7] at q2
                        exact q2.elim
                  | exc x fs e6 =>
                    rw [hfe] at q2
                    exact q2.elim
                  | stuck =>
                    rw [hfe] at q2
                    exact q2.elim
              | exc x fs e5 =>
                rw [hft] at q2
                exact q2.elim
              | stuck =>
                rw [hft] at q2
                exact q2.elim))
          rw [ww] at key
          exact key
        | _ =>
          rw [hfd] at q2
          exact q2.elim
  · rw [if_neg hw] at q1
    exact q1.elim
end

/-! ### locked -/
def NoFrz (H0 : Hp) (d : Addr) : Prop := ∀ o' u', H0 d ≠ some (.frz o' u')
def unlP (H0 : Hp) (P : Hp → Prop) : Hp → Prop := fun H' => P H' ∨ ∃ d od u, H' d = some (.frz od u) ∧ NoFrz H0 d ∧ P (upd H' d u)
def tUnl (H0 : Hp) (t : TS) : TS := fun D σ H => t ⟨fun σ' H' => unlP H0 (D.nx σ') H', fun v H' => unlP H0 (D.rt v) H', fun σ' H' => unlP H0 (D.bk σ') H', fun σ' H' => unlP H0 (D.ct σ') H'⟩ σ H
def tUnlE (H0 : Hp) (t : TE) : TE := fun σ H Q => t σ H fun v H' => unlP H0 (Q v) H'
section
variable {X : Cx}
theorem ps_unl {st : Stmt} {t : TS} (h : PS X st t) : PS X st (tUnl X.H_0 t) := by
  refine ⟨fun pins s σ H D I hw => ?_⟩
  refine thn (h.run pins s σ H _ I hw) fun f s1 q => ?_
  cases f with
  | next =>
    obtain ⟨σ', H', I2, q | ⟨d, od, u, e, n, q⟩⟩ := q
    · exact ⟨σ', H', I2, q⟩
    · exact ⟨σ', _, I2.unlock e n, q⟩
  | brk =>
    obtain ⟨σ', H', I2, q | ⟨d, od, u, e, n, q⟩⟩ := q
    · exact ⟨σ', H', I2, q⟩
    · exact ⟨σ', _, I2.unlock e n, q⟩
  | cont =>
    obtain ⟨σ', H', I2, q | ⟨d, od, u, e, n, q⟩⟩ := q
    · exact ⟨σ', H', I2, q⟩
    · exact ⟨σ', _, I2.unlock e n, q⟩
  | ret v =>
    obtain ⟨x, σ', H', I2, r, q | ⟨d, od, u, e, n, q⟩⟩ := q
    · exact ⟨x, σ', H', I2, r, q⟩
    · exact ⟨x, σ', _, I2.unlock e n, r, q⟩
theorem pe_unl {e : Expr} {t : TE} (h : PE X e t) : PE X e (tUnlE X.H_0 t) := by
  refine ⟨fun pins s σ H Q I hw => ?_⟩
  refine thn (h.run pins s σ H _ I hw) fun v s1 ⟨x, H1, I2, r, q⟩ => ?_
  rcases q with q | ⟨d, od, u, e, n, q⟩
  · exact ⟨x, H1, I2, r, q⟩
  · exact ⟨x, _, I2.unlock e n, r, q⟩
def iKeysL (H0 : Hp) (td : TE) : TI := fun σ H R => td σ H fun x H1 => ∃ d kvs, x = .ref d ∧ ((∃ o, H1 d = some (.frz o (.dK kvs)) ∧ R (Itk d o kvs) H1) ∨ (H1 d = some (.dK kvs) ∧ ∀ od, NoFrz H0 d → R (Itk d od kvs) (upd H1 d (.frz od (.dK kvs)))))
theorem pi_keysL {tg e : Expr} {td : TE} (he : PE X e td) : PI X tg e (iKeysL X.H_0 td) := by
  refine ⟨fun pins s σ H R I h => ?_⟩
  refine thn (he.run pins s σ H _ I h) fun u s1 ⟨x, H1, I1, rx, d, kvs, ex, q⟩ => ?_
  subst ex
  obtain rfl : u = Value.ref d := rx
  have go : ∀ {o : Obj} {H2 : Hp}, Inv X pins σ H2 s1 → H2 d = some (.frz o (.dK kvs)) → R (Itk d o kvs) H2 → wpAny (model X.prog X.w) X.A (pyIter (.ref d)) (PIE X pins σ tg R) X.xe s1 := by
    intro o H2 I2 hd q
    obtain ⟨hs, hgd, hx, es, ep, vs, hdt, hsz, kv, hm⟩ := I2.frzK hd
    refine iter_keys hs hgd hx hdt (pi_one (tk := s1.toks) I2 _ (turn_keys _ hdt) ⟨_, Heap.get?_push_size _ rfl, rfl, ?_⟩ q)
    rw [hsz] <;> rfl
  rcases q with ⟨o, hd, q⟩ | ⟨hd, q⟩
  · exact go I1 hd q
  · obtain ⟨od, I2⟩ := I1.lock hd trivial
    exact go I2 upd_same (q od (I1.nofrz hd trivial))
end
def Ctx.lock (c : Ctx) (d : Addr) (od : Obj) (u : HO) : Ctx := { c with lk := fun a => if a = d then some (od, u) else c.lk a }
section
variable {c : Ctx} {G H : Hp} {env : Env} {σ : L2.St}
theorem Rel.lock {d : Addr} {kvs : List (Key × V)} (r : Rel c G env σ H) (hG : G d = some (.dK kvs)) (hH : H d = some (.dK kvs)) (od : Obj) : Rel (c.lock d od (.dK kvs)) G env σ (upd H d (.frz od (.dK kvs))) := by
  have neG : ∀ p, G p = none → p ≠ d := fun p e z => by
    rw [z, hG] at e
    cases e
  refine ⟨fun a o e => ?_, r.g0, r.gfix, fun a o e hp => ?_, fun a ob u e => ?_, fun i p e => ⟨(r.pah i p e).1, ?_⟩, r.pinj, r.len, fun i s e => ?_, r.dist, fun a o e => ?_, r.pars⟩
  · by_cases z : a = d
    · subst z
      rw [hG] at e
      cases e
      exact .inr ⟨⟨kvs, rfl⟩, od, upd_same⟩
    · rw [upd_ne z]
      exact r.sub a o e
  · by_cases z : a = d
    · subst z
      have e' : c.H0 a = some o := e
      have lkn : ∀ ob w, c.lk a ≠ some (ob, w) := fun ob w z => by
        have := r.lks a ob w z
        rw [hH] at this
        cases this
      rcases r.keep a o e' hp with h | ⟨ob, h⟩
      · rw [hH] at h
        cases h
        exact .inr ⟨od, if_pos rfl⟩
      · exact absurd h (lkn ob o)
    · rw [upd_ne z]
      rcases r.keep a o e hp with h | ⟨ob, h⟩
      · exact .inl h
      · exact .inr ⟨ob, by show (if a = d then _ else _) = _; rw [if_neg z]; exact h⟩
  · have e : (if a = d then some (od, HO.dK kvs) else c.lk a) = some (ob, u) := e
    by_cases z : a = d
    · subst z
      rw [if_pos rfl] at e
      cases e
      exact upd_same
    · rw [if_neg z] at e
      rw [upd_ne z]
      exact r.lks a ob u e
  · by_cases z : p = d
    · rw [z, upd_same]
      intro z2
      cases z2
    · rw [upd_ne z]
      exact (r.pah i p e).2
  · have so : SlotOk c G H i σ[i]? s := r.slot i s e
    exact (so.heap (c := c) (Gle.refl G) fun p _ hg _ => ⟨hg, upd_ne (neG p hg)⟩ : SlotOk c G (upd H d (.frz od (.dK kvs))) i σ[i]? s)
  · obtain ⟨h1, h2, h3⟩ := r.frs a o e
    exact ⟨by rw [upd_ne (neG a h2)]; exact h1, h2, h3⟩
theorem Rel.unlock {d : Addr} {od : Obj} {kvs : List (Key × V)} (hG : G d = some (.dK kvs)) (hl : c.lk d = none) (hk : ∀ o, c.H0 d = some o → (∀ i, c.pa i ≠ some d) → o = .dK kvs) (r : Rel (c.lock d od (.dK kvs)) G env σ H) : H d = some (.frz od (.dK kvs)) ∧ Rel c G env σ (upd H d (.dK kvs)) := by
  have hd : H d = some (.frz od (.dK kvs)) := r.lks d od _ (if_pos rfl)
  have neG : ∀ p, G p = none → p ≠ d := fun p e z => by
    rw [z, hG] at e
    cases e
  refine ⟨hd, fun a o e => ?_, r.g0, r.gfix, fun a o e hp => ?_, fun a ob u e => ?_, fun i p e => ⟨(r.pah i p e).1, ?_⟩, r.pinj, r.len, fun i s e => ?_, r.dist, fun a o e => ?_, r.pars⟩
  · by_cases z : a = d
    · subst z
      rw [hG] at e
      cases e
      exact .inl upd_same
    · rw [upd_ne z]
      exact r.sub a o e
  · by_cases z : a = d
    · subst z
      rw [hk o e hp]
      exact .inl upd_same
    · rw [upd_ne z]
      rcases r.keep a o e hp with h | ⟨ob, h⟩
      · exact .inl h
      · have h : (if a = d then some (od, HO.dK kvs) else c.lk a) = some (ob, o) := h
        rw [if_neg z] at h
        exact .inr ⟨ob, h⟩
  · have z : a ≠ d := fun z => by
      rw [z, hl] at e
      cases e
    rw [upd_ne z]
    refine r.lks a ob u ?_
    show (if a = d then _ else _) = _
    rw [if_neg z]
    exact e
  · by_cases z : p = d
    · rw [z, upd_same]
      intro z2
      cases z2
    · rw [upd_ne z]
      exact (r.pah i p e).2
  · have so : SlotOk c G H i σ[i]? s := r.slot i s e
    exact (so.heap (c := c) (Gle.refl G) fun p _ hg _ => ⟨hg, upd_ne (neG p hg)⟩ : SlotOk c G (upd H d (.dK kvs)) i σ[i]? s)
  · obtain ⟨h1, h2, h3⟩ := r.frs a o e
    exact ⟨by rw [upd_ne (neG a h2)]; exact h1, h2, h3⟩
theorem RV.unlock {d : Addr} {od : Obj} {kvs : List (Key × V)} (hG : G d = some (.dK kvs)) {v : V} {ev : EV} (h : RV (c.lock d od (.dK kvs)) G env σ H v ev) : RV c G env σ (upd H d (.dK kvs)) v ev := by
  cases ev with
  | dat e => exact h
  | slot i => exact h
  | new e =>
    obtain ⟨p, h1, h2, h3, h4, h5⟩ := h
    have ne : p ≠ d := fun z => by
      rw [z, hG] at h3
      cases h3
    exact ⟨p, h1, h2, h3, h4.at (upd_ne ne), h5⟩
end
section
variable {c : Ctx} {G H : Hp} {env : Env} {σ : L2.St}
/-- already locked by somebody else: it stays so -/
theorem Rel.hold {d : Addr} {kvs : List (Key × V)} {od : Obj} (r : Rel c G env σ H) (hH : H d = some (.frz od (.dK kvs))) : Rel (c.lock d od (.dK kvs)) G env σ H := by
  refine ⟨r.sub, r.g0, r.gfix, fun a o e hp => ?_, fun a ob u e => ?_, r.pah, r.pinj, r.len, r.slot, r.dist, r.frs, r.pars⟩
  · by_cases z : a = d
    · subst z
      rcases r.keep a o e hp with h | ⟨ob, h⟩
      · exact .inl h
      · have := r.lks a ob o h
        rw [hH] at this
        cases this
        exact .inr ⟨od, if_pos rfl⟩
    · rcases r.keep a o e hp with h | ⟨ob, h⟩
      · exact .inl h
      · exact .inr ⟨ob, by show (if a = d then _ else _) = _; rw [if_neg z]; exact h⟩
  · have e : (if a = d then some (od, HO.dK kvs) else c.lk a) = some (ob, u) := e
    by_cases z : a = d
    · subst z
      rw [if_pos rfl] at e
      cases e
      exact hH
    · rw [if_neg z] at e
      exact r.lks a ob u e
theorem Rel.unhold {d : Addr} {kvs : List (Key × V)} {od : Obj} (hl : ∀ ob u, c.lk d = some (ob, u) → ob = od ∧ u = .dK kvs) (hk : ∀ o, c.H0 d = some o → (∀ i, c.pa i ≠ some d) → o = .frz od (.dK kvs) ∨ ∃ ob, c.lk d = some (ob, o)) (r : Rel (c.lock d od (.dK kvs)) G env σ H) : Rel c G env σ H := by
  have hd : H d = some (.frz od (.dK kvs)) := r.lks d od _ (if_pos rfl)
  refine ⟨r.sub, r.g0, r.gfix, fun a o e hp => ?_, fun a ob u e => ?_, r.pah, r.pinj, r.len, r.slot, r.dist, r.frs, r.pars⟩
  · by_cases z : a = d
    · subst z
      rcases hk o e hp with rfl | h
      · exact .inl hd
      · exact .inr h
    · rcases r.keep a o e hp with h | ⟨ob, h⟩
      · exact .inl h
      · have h : (if a = d then some (od, HO.dK kvs) else c.lk a) = some (ob, o) := h
        rw [if_neg z] at h
        exact .inr ⟨ob, h⟩
  · by_cases z : a = d
    · subst z
      obtain ⟨rfl, rfl⟩ := hl ob u e
      exact hd
    · refine r.lks a ob u ?_
      show (if a = d then _ else _) = _
      rw [if_neg z]
      exact e
theorem RV.unhold {d : Addr} {od : Obj} {kvs : List (Key × V)} {v : V} {ev : EV} (h : RV (c.lock d od (.dK kvs)) G env σ H v ev) : RV c G env σ H v ev := by
  cases ev with
  | dat e => exact h
  | slot i => exact h
  | new e => exact h
/-- locked, and back: both cases -/
theorem lock_both {H0 : Hp} {d : Addr} {vs : List (Key × V)} {kvs : List (Key × D)} (r : Rel c G env σ H) (hr : R c.K G (.ref d) (.dic kvs)) (hrd : Rd G d (.dK vs)) {R1 : It → Hp → Prop} {J : Obj → It}
    (go : ∀ (od : Obj) (H1 : Hp) (Ok : (Hp → Prop) → Hp → Prop), Rel (c.lock d od (.dK vs)) G env σ H1 →
      (∀ (G' : Hp) (env' : Env) (σ' : L2.St) (H' : Hp) (P : Hp → Prop), Gle G G' → Rel (c.lock d od (.dK vs)) G' env' σ' H' → (∀ H'', Rel c G' env' σ' H'' → (∀ v ev, RV (c.lock d od (.dK vs)) G' env' σ' H' v ev → RV c G' env' σ' H'' v ev) → P H'') → unlP H0 P H') → R1 (J od) H1) :
    (∃ o, H d = some (.frz o (.dK vs)) ∧ R1 (J o) H) ∨ (H d = some (.dK vs) ∧ ∀ od, NoFrz H0 d → R1 (J od) (upd H d (.frz od (.dK vs)))) := by
  rcases r.sub.dK hrd with hd | ⟨od, hd⟩
  · have hG : G d = some (.dK vs) := by
      rcases hrd with h | ⟨o, h⟩
      · exact h
      · have := r.sub.frz h
        rw [hd] at this
        cases this
    have hl : c.lk d = none := by
      cases e : c.lk d with
      | none => rfl
      | some p =>
        have := r.lks d p.1 p.2 e
        rw [hd] at this
        cases this
    have hk : ∀ o, c.H0 d = some o → (∀ i, c.pa i ≠ some d) → o = .dK vs := fun o e hp => by
      rcases r.keep d o e hp with h | ⟨ob, h⟩
      · rw [hd] at h
        cases h
        rfl
      · rw [hl] at h
        cases h
    refine .inr ⟨hd, fun od nf => go od _ (fun P H' => True) (r.lock hG hd od) fun G' env' σ' H' P l r' k => ?_⟩
    obtain ⟨e1, r2⟩ := Rel.unlock (l _ _ hG) hl hk r'
    exact .inr ⟨d, od, _, e1, nf, k _ r2 fun v ev => RV.unlock (l _ _ hG)⟩
  · refine .inl ⟨od, hd, go od _ (fun P H' => True) (r.hold hd) fun G' env' σ' H' P l r' k => ?_⟩
    refine .inl (k _ (Rel.unhold (fun ob u e => ?_) (fun o e hp => ?_) r') fun v ev => RV.unhold)
    · have := r.lks d ob u e
      rw [hd] at this
      cases this
      exact ⟨rfl, rfl⟩
    · rcases r.keep d o e hp with h | h
      · rw [hd] at h
        cases h
        exact .inl rfl
      · exact .inr h
end
def kD : Key → D
  | .inl i => .int i
  | .inr x => .str x
def keyS (kvs : List (Key × D)) : Src := ⟨kvs.length, fun _ => true, fun _ i => (kvs[i]?).map fun p => kD p.1⟩
theorem RK.len {K : PySem.W.Frag} {G : Hp} {ds : List (Key × D)} {vs : List (Key × V)} (h : RK K G vs ds) : vs.length = ds.length := by
  have := congrArg List.length h.keys
  rwa [List.length_map, List.length_map] at this
theorem turns_keys {c : Ctx} {G : Hp} {d : Addr} {od : Obj} {vs : List (Key × V)} {kvs : List (Key × D)} (hl : c.lk d = some (od, .dK vs)) (h : RK c.K G vs kvs) : Turns c G (Itk d od vs) (keyS kvs) := by
  refine ⟨fun i G1 env σ H e r l hi hd => ?_, fun G1 env σ H r l _ => ⟨r.lks d od _ hl, by rw [h.len]; exact Nat.le_refl _⟩⟩
  have hi : i < kvs.length := hi
  obtain ⟨p, hp, rfl⟩ := Option.map_eq_some_iff.mp hd
  refine ⟨⟨r.lks d od _ hl, by rw [h.len]; exact hi⟩, fun x H' y => ?_⟩
  obtain ⟨rfl, k, v, e1, rfl⟩ := y
  have e2 : (vs.map (·.1))[i]? = some k := by rw [List.getElem?_map, e1]; rfl
  rw [h.keys, List.getElem?_map, hp] at e2
  have e3 : p.1 = k := Option.some.inj e2
  subst e3
  refine ⟨G1, r, Gle.refl _, ?_⟩
  cases p.1 with
  | inl i => exact .int i
  | inr x => exact .str x
def dicOf (env : Env) (ev : EV) : Option (List (Key × D) × Env) := match freeze env ev with
  | some (.dic kvs, env') => some (kvs, env')
  | _ => none
theorem dicOf_ok {c : Ctx} {G H : Hp} {env env' : Env} {σ : L2.St} {v : V} {ev : EV} {kvs : List (Key × D)} (r : Rel c G env σ H) (h : RV c G env σ H v ev) (e : dicOf env ev = some (kvs, env')) : ∃ G' d vs, Rel c G' env' σ H ∧ Gle G G' ∧ v = .ref d ∧ R c.K G' (.ref d) (.dic kvs) ∧ Rd G' d (.dK vs) ∧ RK c.K G' vs kvs := by
  unfold dicOf at e
  split at e
  · rename_i d' e' hf
    cases e
    obtain ⟨G', r', l, hr⟩ := r.freeze h hf
    cases hr with
    | dic h1 h2 => exact ⟨G', _, _, r', l, rfl, .dic h1 h2, h1, h2⟩
  · cases e
def noExc : OutS → OutS
  | .exc _ _ _ => .stuck
  | o => o
def sForK (fe : Env → Out EV) (f : EV → Env → OutS) (F : Env → OutS) : Env → OutS := fun env => (fe env).toS fun ev e1 => match dicOf e1 ev with
  | some (kvs, e2) => noExc (loopF (keyS kvs) f F kvs.length e2)
  | none => .stuck
section
variable {K : PySem.W.Frag} {mg : MX} {W : WX}
theorem sem_forK {H0 : Hp} {te : TE} {g : TG} {tb : TS} {fe : Env → Out EV} {f : EV → Env → OutS} {F : Env → OutS} (he : SemE K mg W te fe) (hg : SemG K mg W g f) (hx : ∀ ev env, (∃ e, f ev env = .next e) ∨ f ev env = .stuck) (hb : SemS K mg W tb F) :
    SemS K mg W (tUnl H0 (tFor (iKeysL H0 te) g tb)) (sForK fe f F) := by
  intro c G env σ H D hK hm r h
  refine he c G env σ H hK hm r _ (post_toS h fun ev e1 v G1 H1 r1 l1 p1 q1 => ?_)
  have q1 : PostS c G1 W D (match dicOf e1 ev with
    | some (kvs, e2) => noExc (loopF (keyS kvs) f F kvs.length e2)
    | none => .stuck) := q1
  cases hd : dicOf e1 ev with
  | none =>
    rw [hd] at q1
    exact q1.elim
  | some z =>
    obtain ⟨kvs, e2⟩ := z
    rw [hd] at q1
    have q1 : PostS c G1 W D (noExc (loopF (keyS kvs) f F kvs.length e2)) := q1
    obtain ⟨G2, d, vs, r2, l2, rfl, hr, hrd, hrk⟩ := dicOf_ok r1 p1 hd
    refine ⟨d, vs, rfl, lock_both (H0 := H0) (J := fun od => Itk d od vs) (R1 := ForR g tb _ σ) r2 hr hrd fun od H2 _ r3 fin => ?_⟩
    refine for_go (c := c.lock d od (.dK vs)) (s := keyS kvs) hg hx hb hK hm r3 (turns_keys (c := c.lock d od (.dK vs)) (if_pos rfl) hrk) ?_
    show PostS (c.lock d od (.dK vs)) G2 W _ (loopF (keyS kvs) f F kvs.length e2)
    cases ho : loopF (keyS kvs) f F kvs.length e2 with
    | next e =>
      rw [ho] at q1
      exact fun σ' G' H' r' l' => fin G' e σ' H' _ l' r' fun H'' r'' _ => q1 σ' G' H'' r'' (l2.trans l')
    | brk e =>
      rw [ho] at q1
      exact fun σ' G' H' r' l' => fin G' e σ' H' _ l' r' fun H'' r'' _ => q1 σ' G' H'' r'' (l2.trans l')
    | cnt e =>
      rw [ho] at q1
      exact fun σ' G' H' r' l' => fin G' e σ' H' _ l' r' fun H'' r'' _ => q1 σ' G' H'' r'' (l2.trans l')
    | ret ev e =>
      rw [ho] at q1
      exact fun v σ' G' H' r' l' p => fin G' e σ' H' _ l' r' fun H'' r'' kv => q1 v σ' G' H'' r'' (l2.trans l') (kv v ev p)
    | exc x fs e =>
      rw [ho] at q1
      exact q1.elim
    | stuck =>
      rw [ho] at q1
      exact q1.elim
def eLcK (fd : Env → Out EV) (g : EV → Env → OutS) (ft : Env → Out Bool) (fe : Env → Out EV) (vs : List Nat) : Env → Out EV := fun env => (fd env).bind fun ev e1 => match dicOf e1 ev with
  | some (kvs, e2) => if wipable e2 vs then (match loopC (keyS kvs) g ft fe vs kvs.length [] (wipeE e2 vs) with
    | .val a e => .val a e
    | _ => .stuck) else .stuck
  | none => .stuck
theorem sem_lcK {H0 : Hp} {td : TE} {g : TG} {tt : TT} {te : TE} {vs : List Nat} {fd : Env → Out EV} {f : EV → Env → OutS} {ft : Env → Out Bool} {fe : Env → Out EV} (hd : SemE K mg W td fd) (hg : SemG K mg W0 g f) (hk : Keeps g vs)
    (ht : SemT K mg W0 tt ft) (he : SemE K mg W0 te fe) : SemE K mg W (tUnlE H0 (tLc (iKeysL H0 td) g tt te vs)) (eLcK fd f ft fe vs) := by
  intro c G env σ H hK hm r Q h
  refine hd c G env σ H hK hm r _ (post_bind h fun ev e1 v G1 H1 r1 l1 p1 q1 => ?_)
  have q1 : Post c G1 σ W (PV c σ) Q (match dicOf e1 ev with
    | some (kvs, e2) => if wipable e2 vs = true then (match loopC (keyS kvs) f ft fe vs kvs.length [] (wipeE e2 vs) with
      | .val a e => .val a e
      | _ => .stuck) else .stuck
    | none => .stuck) := q1
  cases hd : dicOf e1 ev with
  | none =>
    rw [hd] at q1
    exact q1.elim
  | some z =>
    obtain ⟨kvs, e2⟩ := z
    rw [hd] at q1
    have q1 : Post c G1 σ W (PV c σ) Q (if wipable e2 vs = true then (match loopC (keyS kvs) f ft fe vs kvs.length [] (wipeE e2 vs) with
      | .val a e => .val a e
      | _ => .stuck) else .stuck) := q1
    obtain ⟨G2, d, us, r2, l2, rfl, hr, hrd, hrk⟩ := dicOf_ok r1 p1 hd
    refine ⟨d, us, rfl, lock_both (H0 := H0) (J := fun od => Itk d od us) (R1 := LcR g tt te vs σ fun v H9 => unlP H0 (Q v) H9) r2 hr hrd fun od H2 _ r3 fin => ?_⟩
    refine lc_go (c := c.lock d od (.dK us)) (s := keyS kvs) (W := W) hg hk ht he hK hm r3 (fun fr => turns_keys (c := { c.lock d od (.dK us) with fr := fr }) (if_pos rfl) hrk) ?_
    by_cases hw : wipable e2 vs = true
    · rw [if_pos hw] at q1 ⊢
      show Post (c.lock d od (.dK us)) G2 σ W _ _ (loopC (keyS kvs) f ft fe vs kvs.length [] (wipeE e2 vs))
      cases ho : loopC (keyS kvs) f ft fe vs kvs.length [] (wipeE e2 vs) with
      | val a e =>
        rw [ho] at q1
        exact fun v G' H' r' l' p => fin G' e σ H' _ l' r' fun H'' r'' kv => q1 v G' H'' r'' (l2.trans l') (kv v a p)
      | exc x fs e =>
        rw [ho] at q1
        exact q1.elim
      | stuck =>
        rw [ho] at q1
        exact q1.elim
    · rw [if_neg hw] at q1
      exact q1.elim
end
end DL

/-! DLH: enumerate of a dict, dict comprehensions -/
namespace DL
open PySem L2 PySem.Spec PyProof.Rows
section
variable {prog : Program} {w : World} {A : Around} {E : Value → Shared → Prop} {s : Shared}
theorem key_next {it d : Addr} {i ep : Nat} {es : Array DictEntry} {Q : Value → Shared → Prop} (hit : s.heap.IsKeyIter it d i es.size ep) (hm : s.heap.DictRaw d es ep) (hlt : i < es.size)
    (hQ : ∀ h', h'.IsKeyIter it d (i + 1) es.size ep → Heap.SameBut it s.heap h' → Q es[i].key { s with heap := h' }) : wpAny (model prog w) A (Builtin.SmallTypes.nextOf (.ref it)) Q E s := by
  obtain ⟨⟨o, ho, hc, hd⟩, ⟨od, hod, hcd, hdd⟩⟩ := And.intro (id hit) (id hm)
  have hown : Builtin.Dict_items.ownsTuple "dict_keyiterator" = false := by decide
  have hi0 : ¬ ((i : Int) < 0) := by omega
  unfold Builtin.SmallTypes.nextOf
  refine wpAny_bind (wpAny_callSpecial?_slot (name := Str.ofString "__next__") hit.typeIs F.slot_dict_keyiterator_next (wpAny_call_entry F.slot_dict_keyiterator_next hit.typeIs F.entry_dict_keyiterator_next (wpAny_bind (wpAny_pure (wpAny_bind (wpAny_bind ?_)))) (F.args_dict_keyiterator_next_1 _)))
  first | refine wpAny_bind (wpAny_typeNameOfWhole_keyiter hit.typeIs (wpAny_pure (wpAny_bind (wpAny_fieldsOf ho hd ?_)))) | refine wpAny_bind (wpAny_typeNameOf_keyiter hit.typeIs (wpAny_pure (wpAny_bind (wpAny_fieldsOf ho hd ?_))))
  simp only [hown, Bool.false_eq_true, if_false]
  show wpAny _ _ (if (Value.ref d == Value.none) = true then _ else _) _ _ s
  rw [if_neg (fun z : (Value.ref d == Value.none) = true => Bool.false_ne_true z)]
  refine wpAny_bind (wpAny_pure (wpAny_bind (wpAny_dictEntries hod hdd ?_)))
  rw [if_neg (by simp)]
  refine wpAny_bind (wpAny_pure (wpAny_bind (wpAny_dictEpoch hod hdd ?_)))
  rw [if_neg (by simp)]
  refine wpAny_pure ?_
  simp only [hi0, if_false, Int.toNat_natCast, Array.getElem?_eq_getElem hlt]
  refine wpAny_bind ?_
  first | refine wpAny_bind (wpAny_typeNameOfWhole_keyiter hit.typeIs (wpAny_pure (wpAny_bind (wpAny_isOneOf_keyiter hit.typeIs ?_)))) | refine wpAny_bind (wpAny_typeNameOf_keyiter hit.typeIs (wpAny_pure (wpAny_bind (wpAny_isOneOf_keyiter hit.typeIs ?_))))
  show wpAny _ _ (setField (.ref it) 1 (rawInt ((i : Int) + 1)) >>= _) _ _ s
  have hit' : (s.heap.update it (Obj.mapFields (·.setIfInBounds 1 (rawInt ((i : Int) + 1))))).IsKeyIter it d (i + 1) es.size ep := by
    refine ⟨_, Heap.get?_update_self _ ho (Obj.isFreed_of_fields (Obj.data_mapFields hd _)), (Obj.cls_mapFields ..).trans hc, ?_⟩
    rw [Obj.data_mapFields hd]
    simp [rawInt]
  refine wpAny_bind (wpAny_setField ho hd (by simp) (wpAny_bind (wpAny_holding (wpAny_bind (wpAny_isOneOf_keyiter (s := { s with heap := s.heap.update it (Obj.mapFields (·.setIfInBounds 1 (rawInt ((i : Int) + 1)))) }) hit'.typeIs ?_)))))
  show wpAny _ _ (pure es[i].key) _ _ _
  exact wpAny_pure (wpAny_pure ⟨_, rfl, wpAny_pure (hQ _ hit' (Heap.SameBut.update ..))⟩)
theorem key_end {it d : Addr} {i ep : Nat} {es : Array DictEntry} {Q : Value → Shared → Prop} (hh : A.handled = none) (hit : s.heap.IsKeyIter it d i es.size ep) (hm : s.heap.DictRaw d es ep) (hge : es.size ≤ i)
    (hE : ∀ h' e, Heap.ExtBut it s.heap h' → (∃ o, h'.get? e = some o ∧ o.cls = .type "StopIteration") → E (.ref e) { s with heap := h' }) : wpAny (model prog w) A (Builtin.SmallTypes.nextOf (.ref it)) Q E s := by
  obtain ⟨⟨o, ho, hc, hd⟩, ⟨od, hod, hcd, hdd⟩⟩ := And.intro (id hit) (id hm)
  have hown : Builtin.Dict_items.ownsTuple "dict_keyiterator" = false := by decide
  have hi0 : ¬ ((i : Int) < 0) := by omega
  unfold Builtin.SmallTypes.nextOf
  refine wpAny_bind (wpAny_callSpecial?_slot (name := Str.ofString "__next__") hit.typeIs F.slot_dict_keyiterator_next (wpAny_call_entry F.slot_dict_keyiterator_next hit.typeIs F.entry_dict_keyiterator_next (wpAny_bind (wpAny_pure (wpAny_bind (wpAny_bind ?_)))) (F.args_dict_keyiterator_next_1 _)))
  first | refine wpAny_bind (wpAny_typeNameOfWhole_keyiter hit.typeIs (wpAny_pure (wpAny_bind (wpAny_fieldsOf ho hd ?_)))) | refine wpAny_bind (wpAny_typeNameOf_keyiter hit.typeIs (wpAny_pure (wpAny_bind (wpAny_fieldsOf ho hd ?_))))
  simp only [hown, Bool.false_eq_true, if_false]
  show wpAny _ _ (if (Value.ref d == Value.none) = true then _ else _) _ _ s
  rw [if_neg (fun z : (Value.ref d == Value.none) = true => Bool.false_ne_true z)]
  refine wpAny_bind (wpAny_pure (wpAny_bind (wpAny_dictEntries hod hdd ?_)))
  rw [if_neg (by simp)]
  refine wpAny_bind (wpAny_pure (wpAny_bind (wpAny_dictEpoch hod hdd ?_)))
  rw [if_neg (by simp)]
  refine wpAny_pure ?_
  simp only [hi0, if_false, Int.toNat_natCast, Array.getElem?_eq_none hge]
  refine wpAny_bind ?_
  first | refine wpAny_bind (wpAny_typeNameOfWhole_keyiter hit.typeIs (wpAny_pure ?_)) | refine wpAny_bind (wpAny_typeNameOf_keyiter hit.typeIs (wpAny_pure ?_))
  show wpAny _ _ (setField (.ref it) 0 .none >>= _) _ _ s
  refine wpAny_bind (wpAny_setField ho hd (by simp) ?_)
  show wpAny _ _ (newExc (.type "StopIteration") [] >>= _) _ _ _
  refine wpAny_bind ?_
  simp only [newExc, newTuple]
  refine wpAny_bind (wpAny_newObj_type (wpAny_bind (m := firstArgMember _ _) (wpAny_of_eq (a := Value.none) (by first | rfl | (simp only [firstArgMember]; rfl)) (wpAny_newObj_type ?_ (by size_fits)))) (by size_fits))
  simp only [raiseNew]
  refine wpAny_bind (wpAny_handled ?_)
  first | rw [show A.in1.handled = none from hh] | rw [hh]
  exact wpAny_bind (wpAny_pure (wpAny_throw (hE _ _ (((Heap.SameBut.update ..).extBut.push _).push _) ⟨_, Heap.get?_push_size _ rfl, rfl⟩)))
end
theorem drawsK {prog : Program} {w : World} {A : Around} (hh : A.handled = none) (it d : Addr) (hne : d ≠ it) (es : Array DictEntry) (ep : Nat) :
    Draws prog w A it [it, d] es.size (fun i v => ∃ h : i < es.size, v = es[i].key) (fun i h => h.IsKeyIter it d i es.size ep ∧ h.DictRaw d es ep) where
  live := fun _ _ st => let ⟨o, ho, _⟩ := st.1; ⟨o, ho⟩
  frame := fun _ _ _ st hk => ⟨st.1.at fun o e => hk it (by simp) o e, st.2.at fun o e => hk d (by simp) o e⟩
  item := fun i s Q E hi st hQ => key_next st.1 st.2 hi fun h' hit' sb => hQ _ h' s.toks ⟨hi, rfl⟩ ⟨hit', st.2.at fun o e => (sb.2 d hne).trans e⟩ sb
  done := fun s Q E st hE => key_end hh st.1 st.2 (Nat.le_refl _) hE
theorem beginsK (d : Addr) (es : Array DictEntry) (ep : Nat) (hd : (d == sysModules) = false) : Begins (.ref d) { cls := .type "dict_keyiterator", data := .fields #[.ref d, .int 0 0, .int es.size 0, .int ep 0] } fun h => h.DictRaw d es ep where
  iter := fun prog w A E s Q ⟨o, ho, hc, hdt⟩ h => iter_keys hd ho hc hdt h
  keeps := fun h h' x hk => x.at fun o e => hk d o e
  free := rfl
/-- enumerate of a locked dict: its keys in new pairs -/
def ItEK (d : Addr) (od : Obj) (kvs : List (Key × V)) : It :=
  ⟨fun i H => H d = some (.frz od (.dK kvs)) ∧ i < kvs.length, fun i H v H' => ∃ T k x, v = .ref T ∧ H T = none ∧ H' = upd H T (.tup [.int (i : Nat), kV k]) ∧ kvs[i]? = some (k, x), fun i H => H d = some (.frz od (.dK kvs)) ∧ i = kvs.length⟩
theorem turn_enumK {P : Program} {w : World} {K : PySem.W.Frag} {elts : List Expr} {kk : Nat} {tpos : Pos} {d e it : Addr} {od : Obj} {kvs : List (Key × V)} {es : Array DictEntry} {ep : Nat} (hod : od.data = .dict es ep) (hed : e ≠ d) (hid : d ≠ it) :
    Turn P w K (.Tuple elts kk tpos) (ItEK d od kvs) [e, it] e (fun i h => (∃ old, IsEnum h e it ((i : Nat) : Int) old) ∧ h.IsKeyIter it d i es.size ep ∧ e ≠ it) where
  mem := by simp
  obj := fun i h st b hb => by
    obtain ⟨⟨old, he⟩, ⟨o, ho, _, hd⟩, _⟩ := st
    rcases List.mem_cons.mp hb with rfl | hb
    · exact ⟨_, he, fun v q => nomatch q⟩
    · rw [List.mem_singleton.mp hb]
      refine ⟨o, ho, fun v q => ?_⟩
      rw [hd] at q
      cases q
  keep := fun i h h' st k => ⟨let ⟨old, he⟩ := st.1; ⟨old, k e (by simp) _ he⟩, st.2.1.at fun o q => k it (by simp) o q, st.2.2⟩
  item := by
    intro X hP hw hK hc i pins s σ H E I hf st hg
    subst hP hw hK
    obtain ⟨⟨⟨old, he⟩, hit, hne⟩, hd, hi⟩ := And.intro st hg
    obtain ⟨hs, hgd, hx, es', ep', vs, hdt, hsz, kv, hm⟩ := I.frzK hd
    obtain ⟨rfl, rfl⟩ := dict_ep hod hdt
    have hlt : i < es'.size := by
      rw [hsz]
      exact hi
    have hel : e < s.heap.objs.size := Heap.lt_size he
    have hA : (X.A.in1).handled = none := I.ok.hd hc
    obtain ⟨⟨k, x⟩, hkv⟩ : ∃ p, kvs[i]? = some p := ⟨kvs[i], List.getElem?_eq_getElem hi⟩
    refine wpAny_pyNext_enum_itemC (drawsK hA it d hid es' ep') he ⟨hit, ⟨od, hgd, hx, hdt⟩⟩ hlt hne (by simp [hne, hed]) fun y h' tk hy ho st' hT hsz' hk => ?_
    obtain ⟨_, rfl⟩ := hy
    have rk : RelV (kV k) es'[i].key := by
      obtain ⟨u, hu, ru⟩ := kv_get kv hkv
      obtain ⟨o2, es2, k1, k2, k3, k4, k5, k6⟩ := hm
      rw [hgd] at k1
      cases k1
      rw [hdt] at k3
      cases k3
      exact relV_key (k5.get? (e := es'[i]) (by simp [hlt]) hu).1
    refine ⟨_, rfl, wpAny_letOwnedTupleGo_enum (s := { s with heap := h', toks := tk + 1 }) ho fun h2 he2 sb => ?_⟩
    have hT2 := (sb.2 _ (Nat.ne_of_gt hel)).trans hT
    have I1 : Inv X pins σ (upd H s.heap.objs.size (.tup [.int (i : Nat), kV k])) { s with heap := h2, toks := tk + 1 } := by
      refine I.turnedNew (ch := [e, it]) (fun b ob hb q => ?_) hf (Nat.le_refl _) ⟨by show 2 ≤ sizeLine; decide, [.int i tk, es'[i].key], .cons ⟨_, rfl⟩ (.cons rk .nil), ⟨_, hT2, rfl, _, rfl⟩⟩
      rw [List.mem_cons, List.mem_singleton, not_or] at hb
      exact (sb.2 b hb.1).trans (hk b ob hb.1 hb.2 q)
    refine ⟨.ref s.heap.objs.size, _, I1, rfl, ⟨_, k, x, rfl, I.hok.fresh (Nat.le_refl _), rfl, hkv⟩, ⟨⟨es'[i].key, ?_⟩, st'.1.at fun o q => (sb.2 it (Ne.symm hne)).trans q, hne⟩, fun b hb => ?_⟩
    · rw [show ((i + 1 : Nat) : Int) = (i : Int) + 1 by omega]
      exact he2
    · have hlt' : b < s.heap.objs.size := by
        obtain ⟨o, ho, _⟩ := hit
        rcases List.mem_cons.mp hb with rfl | hb
        · exact hel
        · rw [List.mem_singleton.mp hb]
          exact Heap.lt_size ho
      rw [upd_ne (Nat.ne_of_lt hlt')]
      exact (hf b hb).1
  done := by
    intro X hP hw hK hc i pins s σ H E I hf st hg
    subst hP hw hK
    obtain ⟨⟨⟨old, he⟩, hit, hne⟩, hd, hi⟩ := And.intro st hg
    obtain ⟨hs, hgd, hx, es', ep', vs, hdt, hsz, kv, hm⟩ := I.frzK hd
    obtain ⟨rfl, rfl⟩ := dict_ep hod hdt
    have hA : (X.A.in1).handled = none := I.ok.hd hc
    obtain rfl : i = es'.size := by
      rw [hsz]
      exact hi
    obtain ⟨f0, f1, f2, f3, f4, f5⟩ := hf it (by simp)
    exact wpAny_pyNext_enum_endD (drawsK hA it d hid es' ep') he ⟨hit, ⟨od, hgd, hx, hdt⟩⟩ fun h' eb => ⟨rfl, I.turned (t' := s.toks) (fun b o hb q => eb b o hb q) f0 f1 f3 f4 f5⟩
  self := fun A i s Q E st h => by
    obtain ⟨⟨_, he⟩, _⟩ := st
    exact wpAny_pyIter_enum he h
theorem Rel.reext2 {c : Ctx} {G H : Hp} {env : Env} {σ : L2.St} {q : Addr} {o o' : HO} (hc : c.H0 q = none) (r : Rel (c.ext q o) G env σ H) (hk : ∀ ob u, o ≠ .frz ob u) : Rel (c.ext q o') G env σ (upd H q o') := by
  obtain ⟨hq, hg, hs⟩ := r.frs q o (if_pos rfl)
  refine ⟨fun a u e => ?_, r.g0, r.gfix, fun a u e hp => ?_, fun a ob u e => ?_, fun i p e => ⟨(r.pah i p e).1, ?_⟩, r.pinj, r.len, fun i s e => ?_, r.dist, fun a u e => ?_, r.pars⟩
  · have ne : a ≠ q := fun z => by
      rw [z, hg] at e
      cases e
    rw [upd_ne ne]
    exact r.sub a u e
  · have ne : a ≠ q := fun z => by
      have e : c.H0 a = some u := e
      rw [z, hc] at e
      cases e
    rw [upd_ne ne]
    exact r.keep a u e hp
  · have h1 := r.lks a ob u e
    have ne : a ≠ q := fun z => by
      rw [z, hq] at h1
      exact hk _ _ (Option.some.inj h1)
    rw [upd_ne ne]
    exact h1
  · by_cases z : p = q
    · rw [z, upd_same]
      intro z2
      cases z2
    · rw [upd_ne z]
      exact (r.pah i p e).2
  · have so := r.slot i s e
    have so : SlotOk c G H i σ[i]? s := so
    refine (so.heap (c := c) (Gle.refl G) fun p hw hgp hs2 => ⟨hgp, upd_ne fun z => ?_⟩ : SlotOk c G (upd H q o') i σ[i]? s)
    subst z
    obtain ⟨d, rfl | rfl⟩ := hs2
    · exact hs i d (.inl e) hw
    · exact hs i d (.inr e) hw
  · have e : (if a = q then some o' else c.fr a) = some u := e
    by_cases z : a = q
    · subst z
      rw [if_pos rfl] at e
      cases e
      exact ⟨upd_same, hg, hs⟩
    · rw [if_neg z] at e
      obtain ⟨h1, h2, h3⟩ := r.frs a u (by show (if a = q then some o else c.fr a) = some u; rw [if_neg z]; exact e)
      exact ⟨by rw [upd_ne z]; exact h1, h2, h3⟩
def iEnumL (H0 : Hp) (ta : TA) : TI := fun σ H R => ta σ H fun xs H1 => ∃ d kvs, xs = [.ref d] ∧ ((∃ o, H1 d = some (.frz o (.dK kvs)) ∧ R (ItEK d o kvs) H1) ∨ (H1 d = some (.dK kvs) ∧ ∀ od, NoFrz H0 d → R (ItEK d od kvs) (upd H1 d (.frz od (.dK kvs)))))
theorem pi_enumL {X : Cx} {e : Expr} {ta : TA} {p pos tpos : Pos} {elts : List Expr} {kk : Nat} (hg : Gl X "enumerate") (hm : X.mg "enumerate" = none) (ha : PA X [e] ta) (hs : starEach [e] X.env = [(false, eval e X.env)] := by rfl) :
    PI X (.Tuple elts kk tpos) (.Call (.Name "enumerate" p) [e] [] pos) (iEnumL X.H_0 ta) := by
  refine ⟨fun pins s σ H R I h => ?_⟩
  refine Call_ (ld_blt I hg hm boot_enumerate (PyProof.Rows.callWith_type1 (thn (ha.run pos pins s σ H _ I h) fun us s1 ⟨vs, H1, I1, r1, d, kvs, ex, q⟩ => ?_) hs rfl))
  subst ex
  rw [Vals.ref1 r1]
  have go : ∀ {o : Obj} {H2 : Hp}, Inv X pins σ H2 s1 → H2 d = some (.frz o (.dK kvs)) → R (ItEK d o kvs) H2 → wpAny (model X.prog X.w) X.A (call (.type "enumerate") [.ref d]) (fun v s => wpAny (model X.prog X.w) X.A (pyIter v) (PIE X pins σ (.Tuple elts kk tpos) R) X.xe s) X.xe s1 := by
    intro o H2 I2 hd q
    obtain ⟨hs, hgd, hx, es, ep, vs, hdt, hsz, kv, hm⟩ := I2.frzK hd
    have hlt : d < s1.heap.objs.size := Heap.lt_size hgd
    refine enum_begins1 (beginsK d es ep hs) ⟨o, hgd, hx, hdt⟩ fun h' he hit hsz' hk => wpAny_pyIter_enum he ?_
    have I3 : Inv X pins σ H2 { s1 with heap := h' } := I2.kept (t' := s1.toks) hk
    refine ⟨s1.heap.objs.size + 1, [s1.heap.objs.size + 1, s1.heap.objs.size], _, _, H2, rfl, I3, turn_enumK hdt (Nat.ne_of_gt (Nat.lt_succ_of_lt hlt)) (Nat.ne_of_lt hlt), ⟨⟨.none, he⟩, ⟨_, hit, rfl, rfl⟩, Nat.succ_ne_self _⟩, fun b hb => ?_, q⟩
    have hle : s1.heap.objs.size ≤ b := by
      rcases List.mem_cons.mp hb with rfl | hb
      · exact Nat.le_add_right _ _
      · rw [List.mem_singleton.mp hb]
        exact Nat.le_refl _
    exact I2.fpOk hle (I2.hok.fresh hle)
  rcases q with ⟨o, hd, q⟩ | ⟨hd, q⟩
  · exact go I1 hd q
  · obtain ⟨od, I2⟩ := I1.lock hd trivial
    exact go I2 upd_same (q od (I1.nofrz hd trivial))
theorem turns_EK {c : Ctx} {G : Hp} {d : Addr} {od : Obj} {vs : List (Key × V)} {kvs : List (Key × D)} (hl : c.lk d = some (od, .dK vs)) (h : RK c.K G vs kvs) : Turns c G (ItEK d od vs) (enS (keyS kvs)) := by
  refine ⟨fun i G1 env σ H e r l hi hd => ?_, fun G1 env σ H r l _ => ⟨r.lks d od _ hl, h.len.symm⟩⟩
  have hi : i < kvs.length := hi
  obtain ⟨e1, h1, rfl⟩ := Option.map_eq_some_iff.mp hd
  obtain ⟨p, hp, rfl⟩ := Option.map_eq_some_iff.mp h1
  refine ⟨⟨r.lks d od _ hl, by rw [h.len]; exact hi⟩, fun x H' y => ?_⟩
  obtain ⟨T, k, v, rfl, hT, rfl, e1⟩ := y
  have e2 : (vs.map (·.1))[i]? = some k := by rw [List.getElem?_map, e1]; rfl
  rw [h.keys, List.getElem?_map, hp] at e2
  have e3 : p.1 = k := Option.some.inj e2
  subst e3
  have r2 := r.new (o := .tup [.int (i : Nat), kV p.1]) hT
  refine ⟨_, r2, Gle.upd (r.freshG hT), .prs (.inl (.inl upd_same)) (.cons (.int _) (.cons ?_ .nil))⟩
  cases p.1 with
  | inl i => exact .int i
  | inr x => exact .str x

/-! ### {k: v for ..} -/
def loopD (s : Src) (g : EV → Env → OutS) (ft : Env → Out Bool) (fk fv : Env → Out EV) (vs : List Nat) : Nat → List (Key × D) → Env → Out EV
  | 0, acc, env => if s.ok env then .val (.new (.dic acc)) env else .stuck
  | r + 1, acc, env => match s.it env (s.n - (r + 1)) with
    | none => .stuck
    | some d => match g (.dat d) env with
      | .next e1 => match ft e1 with
        | .val false e2 => if wipable e2 vs then loopD s g ft fk fv vs r acc (wipeE e2 vs) else .stuck
        | .val true e2 => match fk e2 with
          | .val ek e3 => match (cont e3 ek).bind keyD with
            | some k => match fv e3 with
              | .val ev e4 => match freeze e4 ev with
                | some (d, e5) => if acc.length < sizeLine ∧ wipable e5 vs = true then loopD s g ft fk fv vs r (putD acc k d) (wipeE e5 vs) else .stuck
                | none => .stuck
              | _ => .stuck
            | none => .stuck
          | _ => .stuck
        | _ => .stuck
      | _ => .stuck
def DcR (g : TG) (tt : TT) (tk tv : TE) (vs : List Nat) (σ : L2.St) (Q : VK) : It → Hp → Prop := fun J H1 => ∀ D, H1 D = none → ∃ W : Nat → Nat → Hp → Prop, (∃ m, W 0 m (upd H1 D (.dK []))) ∧ ∀ i m H, W i m H →
  (J.stop i H ∧ Q (.ref D) H) ∨ (J.go i H ∧ ∃ Nx : Hp → Prop, (∀ H', Nx H' → ∃ m', m' < m ∧ W (i + 1) m' H') ∧ ∀ x H', J.yld i H x H' → g x (L2.wipe σ vs) H' fun σ2 H2 => L2.wipe σ2 vs = L2.wipe σ vs ∧ tt σ2 H2 fun b H3 =>
    if b = true then tk σ2 H3 fun y H4 => tv σ2 H4 fun z H5 => ∃ kvs k, y = kV k ∧ H5 D = some (.dK kvs) ∧ kvs.length < sizeLine ∧ Nx (upd H5 D (.dK (putK kvs k z))) else Nx H3)
theorem key_ok {K : PySem.W.Frag} {G H : Hp} {v : V} {d : D} {k : Key} (h : S K G H v d) (e : keyD d = some k) : v = kV k := by
  cases d with
  | int i =>
    cases e
    exact h.i
  | str x =>
    cases e
    exact h.s
  | _ => cases e
section
variable {K : PySem.W.Frag} {mg : MX} {W : WX}
theorem dc_go {g : TG} {tt : TT} {te tv : TE} {vs : List Nat} {f : EV → Env → OutS} {ft : Env → Out Bool} {fe fv : Env → Out EV} {W0 : WX} (hg : SemG K mg W0 g f) (hk : Keeps g vs) (ht : SemT K mg W0 tt ft) (he : SemD K mg W0 te fe) (hv : SemE K mg W0 tv fv)
    {c : Ctx} {G1 : Hp} {e1 : Env} {σ : L2.St} {H1 : Hp} {Q : VK} {s : Src} {J : It} (hK : c.K = K) (hm : (c.mg, c.xa) = mg) (r1 : Rel c G1 e1 σ H1) (p1 : ∀ f, Turns { c with fr := f } G1 J s)
    (q1 : Post c G1 σ W (PV c σ) Q (if wipable e1 vs then loopD s f ft fe fv vs s.n [] (wipeE e1 vs) else .stuck)) : DcR g tt te tv vs σ Q J H1 := by
  have q1 : Post c G1 σ W (PV c σ) Q (if wipable e1 vs = true then loopD s f ft fe fv vs s.n [] (wipeE e1 vs) else .stuck) := q1
  by_cases hw : wipable e1 vs = true
  · rw [if_pos hw] at q1
    intro Dl hD
    have h0 : c.H0 Dl = none := r1.fresh0 hD
    have hf : c.fr Dl = none := r1.nofr hD
    refine ⟨fun i m H' => m = s.n - i ∧ i ≤ s.n ∧ ∃ G' e' xs ds, Rel (c.ext Dl (.dK xs)) G' (wipeE e' vs) (L2.wipe σ vs) H' ∧ Gle G1 G' ∧ RK c.K G' xs ds ∧ Post c G' σ W (PV c σ) Q (loopD s f ft fe fv vs m ds (wipeE e' vs)),
      ⟨s.n, by simp, Nat.zero_le _, G1, e1, [], [], (r1.wipe hw).ext hD, Gle.refl _, .nil, q1⟩, ?_⟩
    rintro i m H' ⟨rfl, hi2, G2, e2, xs, ds, r2, l2, ra, q2⟩
    have T : Turns (c.ext Dl (.dK xs)) G1 J s := p1 _
    cases hm2 : s.n - i with
    | zero =>
      have e0 : i = s.n := by omega
      subst e0
      rw [hm2] at q2
      have q2 : Post c G2 σ W (PV c σ) Q (if s.ok (wipeE e2 vs) = true then .val (.new (.dic ds)) (wipeE e2 vs) else .stuck) := q2
      by_cases hok : s.ok (wipeE e2 vs) = true
      · rw [if_pos hok] at q2
        refine .inl ⟨T.stop G2 _ _ H' r2 l2 hok, ?_⟩
        obtain ⟨hq, hg2, hs⟩ := r2.frs Dl (.dK xs) (if_pos rfl)
        refine q2 _ G2 H' (r2.unext hf).unwipe (Gle.refl _) ⟨Dl, rfl, h0, hg2, ⟨xs, hq, ra⟩, fun j d hj hsj => ?_, hf⟩
        have r3 := (r2.unext hf).unwipe
        have : (L2.wipe σ vs)[j]? = some (some (.ref Dl)) := by
          rw [wipe_get]
          by_cases hv : j ∈ vs
          · rw [wipeE_get, if_pos hv] at hj
            split at hj <;> cases hj
          · rw [if_neg hv]
            exact hsj
        exact hs j d (.inl hj) this
      · rw [if_neg hok] at q2
        exact q2.elim
    | succ k =>
      have e0 : s.n - (k + 1) = i := by omega
      have hlt : i < s.n := by omega
      rw [hm2] at q2
      unfold loopD at q2
      rw [e0] at q2
      cases hd : s.it (wipeE e2 vs) i with
      | none =>
        rw [hd] at q2
        exact q2.elim
      | some d =>
        rw [hd] at q2
        obtain ⟨hgo, hy⟩ := T.go i G2 _ _ H' d r2 l2 hlt hd
        refine .inr ⟨hgo, fun H3 => ∃ G' e' xs ds, Rel (c.ext Dl (.dK xs)) G' (wipeE e' vs) (L2.wipe σ vs) H3 ∧ Gle G1 G' ∧ RK c.K G' xs ds ∧ Post c G' σ W (PV c σ) Q (loopD s f ft fe fv vs k ds (wipeE e' vs)),
          fun H3 w => ⟨k, by omega, by omega, by omega, w⟩, fun x H3 y => ?_⟩
        obtain ⟨G3, r3, l3, p3⟩ := hy x H3 y
        have q2 : Post c G2 σ W (PV c σ) Q (match f (.dat d) (wipeE e2 vs) with
          | .next e1 => match ft e1 with
            | .val false e2 => if wipable e2 vs then loopD s f ft fe fv vs k ds (wipeE e2 vs) else .stuck
            | .val true e2 => match fe e2 with
              | .val ek e3 => match (cont e3 ek).bind keyD with
                | some kk => match fv e3 with
                  | .val ev e4 => match freeze e4 ev with
                    | some (d, e5) => if ds.length < sizeLine ∧ wipable e5 vs = true then loopD s f ft fe fv vs k (putD ds kk d) (wipeE e5 vs) else .stuck
                    | none => .stuck
                  | _ => .stuck
                | none => .stuck
              | _ => .stuck
            | _ => .stuck
          | _ => .stuck) := q2
        cases hfd : f (.dat d) (wipeE e2 vs) with
        | next e4 =>
          rw [hfd] at q2
          have q2 : Post c G2 σ W (PV c σ) Q (match ft e4 with
            | .val false e2 => if wipable e2 vs then loopD s f ft fe fv vs k ds (wipeE e2 vs) else .stuck
            | .val true e2 => match fe e2 with
              | .val ek e3 => match (cont e3 ek).bind keyD with
                | some kk => match fv e3 with
                  | .val ev e4 => match freeze e4 ev with
                    | some (d, e5) => if ds.length < sizeLine ∧ wipable e5 vs = true then loopD s f ft fe fv vs k (putD ds kk d) (wipeE e5 vs) else .stuck
                    | none => .stuck
                  | _ => .stuck
                | none => .stuck
              | _ => .stuck
            | _ => .stuck) := q2
          have ww : L2.wipe (L2.wipe σ vs) vs = L2.wipe σ vs := wipe_wipe σ vs
          have key := hk x (L2.wipe σ vs) H3 (fun σ2 H2 => tt σ2 H2 fun b H3' => if b = true then te σ2 H3' fun y H4 => tv σ2 H4 fun z H5 => ∃ acc kk, y = kV kk ∧ H5 Dl = some (.dK acc) ∧ acc.length < sizeLine ∧ (∃ G' e' xs ds, Rel (c.ext Dl (.dK xs)) G' (wipeE e' vs) (L2.wipe σ vs) (upd H5 Dl (.dK (putK acc kk z))) ∧ Gle G1 G' ∧ RK c.K G' xs ds ∧ Post c G' σ W (PV c σ) Q (loopD s f ft fe fv vs k ds (wipeE e' vs)))
              else ∃ G' e' xs ds, Rel (c.ext Dl (.dK xs)) G' (wipeE e' vs) (L2.wipe σ vs) H3' ∧ Gle G1 G' ∧ RK c.K G' xs ds ∧ Post c G' σ W (PV c σ) Q (loopD s f ft fe fv vs k ds (wipeE e' vs)))
            (hg (c.ext Dl (.dK xs)) G3 (wipeE e2 vs) (L2.wipe σ vs) H3 x (.dat d) _ hK hm r3 p3 (by
              rw [hfd]
              intro σ4 G4 H4 r4 l4 hwi
              rw [ww] at hwi
              refine ht (c.ext Dl (.dK xs)) G4 e4 σ4 H4 hK hm r4 _ ?_
              cases hft : ft e4 with
              | val b e5 =>
                rw [hft] at q2
                intro b' G5 H5 r5 l5 hb
                obtain rfl : b = b' := hb
                have L5 : Gle G2 G5 := (l3.trans l4).trans l5
                cases b with
                | false =>
                  have q2 : Post c G2 σ W (PV c σ) Q (if wipable e5 vs then loopD s f ft fe fv vs k ds (wipeE e5 vs) else .stuck) := q2
                  by_cases h5 : wipable e5 vs = true
                  · rw [if_pos h5] at q2
                    refine ⟨G5, e5, xs, ds, ?_, l2.trans L5, ra.mono L5.sub, ?_⟩
                    · rw [← hwi]
                      exact r5.wipe h5
                    · exact post_le q2 L5
                  · rw [if_neg h5] at q2
                    exact q2.elim
                | true =>
                  have q2 : Post c G2 σ W (PV c σ) Q (match fe e5 with
                    | .val ek e3 => match (cont e3 ek).bind keyD with
                      | some kk => match fv e3 with
                        | .val ev e4 => match freeze e4 ev with
                          | some (d, e5) => if ds.length < sizeLine ∧ wipable e5 vs = true then loopD s f ft fe fv vs k (putD ds kk d) (wipeE e5 vs) else .stuck
                          | none => .stuck
                        | _ => .stuck
                      | none => .stuck
                    | _ => .stuck) := q2
                  show te σ4 H5 _
                  refine he (c.ext Dl (.dK xs)) G5 e5 σ4 H5 hK hm r5 _ ?_
                  cases hfe : fe e5 with
                  | val ek e6 =>
                    rw [hfe] at q2
                    intro y G6 H6 r6 l6 p6
                    have p6 : RD (c.ext Dl (.dK xs)) G6 σ4 y ek := p6
                    have q2 : Post c G2 σ W (PV c σ) Q (match (cont e6 ek).bind keyD with
                      | some kk => match fv e6 with
                        | .val ev e4 => match freeze e4 ev with
                          | some (d, e5) => if ds.length < sizeLine ∧ wipable e5 vs = true then loopD s f ft fe fv vs k (putD ds kk d) (wipeE e5 vs) else .stuck
                          | none => .stuck
                        | _ => .stuck
                      | none => .stuck) := q2
                    cases hkk : (cont e6 ek).bind keyD with
                    | none =>
                      rw [hkk] at q2
                      exact q2.elim
                    | some kk =>
                      rw [hkk] at q2
                      have q2 : Post c G2 σ W (PV c σ) Q (match fv e6 with
                        | .val ev e4 => match freeze e4 ev with
                          | some (d, e5) => if ds.length < sizeLine ∧ wipable e5 vs = true then loopD s f ft fe fv vs k (putD ds kk d) (wipeE e5 vs) else .stuck
                          | none => .stuck
                        | _ => .stuck) := q2
                      obtain ⟨dk, hdk, hkd⟩ := Option.bind_eq_some_iff.mp hkk
                      have hy : y = kV kk := key_ok (r6.read (RD.rv p6) hdk) hkd
                      refine hv (c.ext Dl (.dK xs)) G6 e6 σ4 H6 hK hm r6 _ ?_
                      cases hfv : fv e6 with
                      | val ev e8 =>
                        rw [hfv] at q2
                        intro z G8 H8 r8 l8 p8
                        have p8 : RV (c.ext Dl (.dK xs)) G8 e8 σ4 H8 z ev := p8
                        have q2 : Post c G2 σ W (PV c σ) Q (match freeze e8 ev with
                          | some (d, e5) => if ds.length < sizeLine ∧ wipable e5 vs = true then loopD s f ft fe fv vs k (putD ds kk d) (wipeE e5 vs) else .stuck
                          | none => .stuck) := q2
                        cases hfr : freeze e8 ev with
                        | none =>
                          rw [hfr] at q2
                          exact q2.elim
                        | some z7 =>
                          obtain ⟨d7, e7⟩ := z7
                          rw [hfr] at q2
                          have q2 : Post c G2 σ W (PV c σ) Q (if ds.length < sizeLine ∧ wipable e7 vs = true then loopD s f ft fe fv vs k (putD ds kk d7) (wipeE e7 vs) else .stuck) := q2
                          obtain ⟨G7, r7, l7, p7⟩ := r8.freeze p8 hfr
                          have L7 : Gle G2 G7 := ((L5.trans l6).trans l8).trans l7
                          have ra7 : RK c.K G7 xs ds := ra.mono L7.sub
                          by_cases h7 : ds.length < sizeLine ∧ wipable e7 vs = true
                          · rw [if_pos h7] at q2
                            obtain ⟨hq7, hg7, hs7⟩ := r7.frs Dl (.dK xs) (if_pos rfl)
                            refine ⟨xs, kk, hy, hq7, by rw [ra7.len]; exact h7.1, G7, e7, putK xs kk z, putD ds kk d7, ?_, l2.trans L7, ra7.put p7, post_le q2 L7⟩
                            have r9 := (r7.wipe h7.2).reext2 (o' := .dK (putK xs kk z)) h0 (fun _ _ w => nomatch w)
                            rw [hwi] at r9
                            exact r9
                          · rw [if_neg h7] at q2
                            exact q2.elim
                      | exc x fs e6 =>
                        rw [hfv] at q2
                        exact q2.elim
                      | stuck =>
                        rw [hfv] at q2
                        exact q2.elim
                  | exc x fs e6 =>
                    rw [hfe] at q2
                    exact q2.elim
                  | stuck =>
                    rw [hfe] at q2
                    exact q2.elim
              | exc x fs e5 =>
                rw [hft] at q2
                exact q2.elim
              | stuck =>
                rw [hft] at q2
                exact q2.elim))
          rw [ww] at key
          exact key
        | _ =>
          rw [hfd] at q2
          exact q2.elim
  · rw [if_neg hw] at q1
    exact q1.elim
def eDc (fs : Env → Out Src) (g : EV → Env → OutS) (ft : Env → Out Bool) (fk fv : Env → Out EV) (vs : List Nat) : Env → Out EV := fun env => (fs env).bind fun s e => if wipable e vs then loopD s g ft fk fv vs s.n [] (wipeE e vs) else .stuck
theorem sem_dc {wi : TI} {g : TG} {tt : TT} {te tv : TE} {vs : List Nat} {fs : Env → Out Src} {f : EV → Env → OutS} {ft : Env → Out Bool} {fe fv : Env → Out EV} (hi : SemI K mg W wi fs) (hg : SemG K mg W0 g f) (hk : Keeps g vs)
    (ht : SemT K mg W0 tt ft) (he : SemD K mg W0 te fe) (hv : SemE K mg W0 tv fv) : SemE K mg W (tDc wi g tt te tv vs) (eDc fs f ft fe fv vs) := by
  intro c G env σ H hK hm r Q h
  refine hi c G env σ H hK hm r _ (post_bind h fun s e1 J G1 H1 r1 l1 p1 q1 => ?_)
  have p1 : ∀ f l, Turns { c with fr := f, lk := l } G1 J s := p1
  exact dc_go hg hk ht he hv hK hm r1 (fun fr => p1 fr c.lk) q1
def eDcE (fa : Env → Out (List EV)) (g : EV → Env → OutS) (ft : Env → Out Bool) (fk fv : Env → Out EV) (vs : List Nat) : Env → Out EV := fun env => (fa env).bind fun as e1 => match as with
  | [ev] => match dicOf e1 ev with
    | some (kvs, e2) => if wipable e2 vs then (match loopD (enS (keyS kvs)) g ft fk fv vs kvs.length [] (wipeE e2 vs) with
      | .val a e => .val a e
      | _ => .stuck) else .stuck
    | none => .stuck
  | _ => .stuck
theorem sem_dcE {H0 : Hp} {ta : TA} {g : TG} {tt : TT} {te tv : TE} {vs : List Nat} {fa : Env → Out (List EV)} {f : EV → Env → OutS} {ft : Env → Out Bool} {fe fv : Env → Out EV} (ha : SemA K mg W ta fa) (hg : SemG K mg W0 g f) (hk : Keeps g vs)
    (ht : SemT K mg W0 tt ft) (he : SemD K mg W0 te fe) (hv : SemE K mg W0 tv fv) : SemE K mg W (tUnlE H0 (tDc (iEnumL H0 ta) g tt te tv vs)) (eDcE fa f ft fe fv vs) := by
  intro c G env σ H hK hm r Q h
  refine ha c G env σ H hK hm r _ (post_bind h fun as e1 xs G1 H1 r1 l1 p1 q1 => ?_)
  match as, xs, p1 with
  | [ev], [v], p1 =>
    have q1 : Post c G1 σ W (PV c σ) Q (match dicOf e1 ev with
      | some (kvs, e2) => if wipable e2 vs = true then (match loopD (enS (keyS kvs)) f ft fe fv vs kvs.length [] (wipeE e2 vs) with
        | .val a e => .val a e
        | _ => .stuck) else .stuck
      | none => .stuck) := q1
    cases hd : dicOf e1 ev with
    | none =>
      rw [hd] at q1
      exact q1.elim
    | some z =>
      obtain ⟨kvs, e2⟩ := z
      rw [hd] at q1
      have q1 : Post c G1 σ W (PV c σ) Q (if wipable e2 vs = true then (match loopD (enS (keyS kvs)) f ft fe fv vs kvs.length [] (wipeE e2 vs) with
        | .val a e => .val a e
        | _ => .stuck) else .stuck) := q1
      obtain ⟨G2, d, us, r2, l2, rfl, hr, hrd, hrk⟩ := dicOf_ok r1 (RD.rv p1.1) hd
      refine ⟨d, us, rfl, lock_both (H0 := H0) (J := fun od => ItEK d od us) (R1 := DcR g tt te tv vs σ fun v H9 => unlP H0 (Q v) H9) r2 hr hrd fun od H2 _ r3 fin => ?_⟩
      refine dc_go (c := c.lock d od (.dK us)) (s := enS (keyS kvs)) (W := W) hg hk ht he hv hK hm r3 (fun fr => turns_EK (c := { c.lock d od (.dK us) with fr := fr }) (if_pos rfl) hrk) ?_
      by_cases hw : wipable e2 vs = true
      · rw [if_pos hw] at q1 ⊢
        show Post (c.lock d od (.dK us)) G2 σ W _ _ (loopD (enS (keyS kvs)) f ft fe fv vs kvs.length [] (wipeE e2 vs))
        cases ho : loopD (enS (keyS kvs)) f ft fe fv vs kvs.length [] (wipeE e2 vs) with
        | val a e =>
          rw [ho] at q1
          exact fun v G' H' r' l' p => fin G' e σ H' _ l' r' fun H'' r'' kv => q1 v G' H'' r'' (l2.trans l') (kv v a p)
        | exc x fs e =>
          rw [ho] at q1
          exact q1.elim
        | stuck =>
          rw [ho] at q1
          exact q1.elim
      · rw [if_neg hw] at q1
        exact q1.elim
  | [], _, _ => exact q1.elim
  | _ :: _ :: _, _, _ => exact q1.elim
  | [_], [], p1 => exact p1.elim
  | [_], _ :: _ :: _, p1 => exact p1.2.elim
end
section
variable {X : Cx}
theorem swD_true {kx vx : Expr} {gs : List Comprehension} {scope : Scope} {pos py : Pos} {y : Str} {l : Nat} {env : PySem.Env} (hk : env.scope.kind = .function) (hy : env.scope.names.lookup y = some .local) (hl : (py.line == pos.line) = true)
    (ha : (scope.names.any fun (n, k) => n == y && (k == .local || k == .cell)) = false) : swapsWith (.DictComp kx vx gs scope pos) (some (.Name y py)) l env = pure true := by
  have k1 : env.kindOf y = some .local := hy
  have k2 : env.blockKind = .function := by
    unfold PySem.Env.blockKind
    rw [hk]
    rfl
  unfold swapsWith
  simp only [k2, k1, ha, Expr.pos, hl]
  rfl
/-- name = {k: v for ..} on one line, the name a local -/
theorem ps_setDc {i : Nat} {y : Str} {py : Pos} {kx vx tg iter : Expr} {ifs : List Expr} {scope : Scope} {own : List (Str × Nat)} {pos spos : Pos} {wi : TI} {g : TG} {tt : TT} {tk tv : TE} (hc : X.calm = true) (hN : X.N.Nodup) (hy : X.N[i]? = some y) (hyl : X.env.scope.names.lookup y = some .local)
    (hsw : swapsWith (.DictComp kx vx [⟨tg, iter, ifs, 0⟩] scope pos) (some (.Name y py)) spos.line X.env = pure true) (hi : PI X tg iter wi) (ok : BlkOk X.N X.env.scope scope own)
    (hg : ∀ (s : Shared) (H : Hp) (C : Addr) (cl : List (Str × Addr)) (fp : List Addr), PG (X.blk s H scope (compEnvC scope cl C X.env) fp) tg g) (ht : ∀ (s : Shared) (H : Hp) (C : Addr) (cl : List (Str × Addr)) (fp : List Addr), PTs (X.blk s H scope (compEnvC scope cl C X.env) fp) ifs tt)
    (hk : ∀ (s : Shared) (H : Hp) (C : Addr) (cl : List (Str × Addr)) (fp : List Addr), PE (X.blk s H scope (compEnvC scope cl C X.env) fp) kx tk)
    (he : ∀ (s : Shared) (H : Hp) (C : Addr) (cl : List (Str × Addr)) (fp : List Addr), PE (X.blk s H scope (compEnvC scope cl C X.env) fp) vx tv) (hs : ∀ x, foldedSetIterable iter X.env x = pure x := by intro _; rfl) :
    PS X (.Assign [.Name y py] (.DictComp kx vx [⟨tg, iter, ifs, 0⟩] scope pos) spos) (tAsg (tDc wi g tt tk tv (own.map (·.2))) (gName i)) := by
  refine ⟨fun pins s σ H D I h => ?_⟩
  rw [exec_Assign_Name_used _ _ _ _ hsw]
  refine wpAny_bind (wpAny_standAt (wpAny_bind ?_))
  show wpAny _ X.A (do let _ ← comprehension (.DictComp kx vx [⟨tg, iter, ifs, 0⟩] scope pos) scope X.env (firstIterPos [⟨tg, iter, ifs, 0⟩] pos) newDict false (eval iter X.env) (some (PySem.assign (.Name y py) X.env))) _ _ s
  have h : tDc wi g tt tk tv (own.map (·.2)) σ H (fun x H1 => gName i x σ H1 D.nx) := h
  refine wpAny_bind (thn (dc_core (Qf := fun _ s' => SP X pins D .next s') hc hN I hi ok hg ht hk he hs h fun L C s' m H' I' q hn f => ?_) fun _ s' hq => wpAny_pure (wpAny_pure hq))
  show wpAny _ _ (PySem.assign (.Name y py) X.env (.ref L)) _ _ _
  refine wpAny_assign_Name (store_ok2 (v := V.ref L) I' hN hy (.inl hyl) rfl (fun s2 I2 ⟨a, sb, ha⟩ => ⟨m, hn.sameBut sb ?_, fun h3 sb3 => ⟨_, H', ?_, q⟩⟩) (.inr hyl))
  · rcases ha with z | z
    · rw [z]
      exact f.2.1
    · exact fun e => f.2.2.2.2.1 y a z e.symm
  · exact I2.turned (t' := s2.toks) (fun b o hb e => (sb3.2 b hb).trans e) f.1 f.2.1 f.2.2.2.1 f.2.2.2.2.1 f.2.2.2.2.2
end
end DL

/-! DLI: d.update(list of pairs) -/
namespace DL
open PySem L2 PySem.Spec PyProof.Rows
def putAll (kvs : List (Key × V)) (ps : List (Key × V)) : List (Key × V) := ps.foldl (fun a p => putK a p.1 p.2) kvs
def putAllD (kvs : List (Key × D)) (ps : List (Key × D)) : List (Key × D) := ps.foldl (fun a p => putD a p.1 p.2) kvs
def rDUpd (K : PySem.W.Frag) : V → List V → Hp → VK → Prop := fun x xs H Q => ∃ (d a : Addr) (acc : List (Key × V)) (ts : List V) (ps : List (Key × V)), x = .ref d ∧ xs = [.ref a] ∧ H d = some (.dK acc) ∧ SqL K H a ts ∧ ts.length = ps.length ∧
  (∀ (i : Nat) (k : Key) (v : V), ps[i]? = some (k, v) → ∃ T : Addr, ts[i]? = some (V.ref T) ∧ SqT K H T [kV k, v]) ∧ acc.length + ps.length ≤ sizeLine ∧ Q .non (upd H d (.dK (putAll acc ps)))
theorem kv_all {kvs : List (Key × V)} {vs : List (Key × Value)} : ∀ {ps : List (Key × V)} {qs : List (Key × Value)}, KV ps qs → KV kvs vs → KV (putAll kvs ps) (merged vs qs) := by
  intro ps qs h
  induction h generalizing kvs vs with
  | nil => exact id
  | @cons p q ps qs h t ih =>
    intro r
    obtain ⟨k, v⟩ := p
    obtain ⟨k', u⟩ := q
    obtain ⟨e, ru⟩ := h
    have e : k = k' := e
    subst e
    exact ih (r.put k ru)
theorem putAll_len : ∀ (ps kvs : List (Key × V)), (putAll kvs ps).length ≤ kvs.length + ps.length
  | [], kvs => Nat.le_refl _
  | p :: ps, kvs => by
    have h1 := putAll_len ps (putK kvs p.1 p.2)
    have h2 := length_putK kvs p.1 p.2
    have h3 : (putAll kvs (p :: ps)) = putAll (putK kvs p.1 p.2) ps := rfl
    rw [h3, List.length_cons]
    omega
section
variable {X : Cx}
theorem pairs_val {K : PySem.W.Frag} {H : Hp} {h : Heap} (tup : ∀ {T : Addr} {k v : V}, SqT K H T [k, v] → ∃ a b, RelV k a ∧ RelV v b ∧ h.IsTuple T #[a, b]) : ∀ {ps : List (Key × V)} {ts : List V}, ts.length = ps.length → (∀ (i : Nat) (k : Key) (v : V), ps[i]? = some (k, v) → ∃ T : Addr, ts[i]? = some (V.ref T) ∧ SqT K H T [kV k, v]) →
    ∃ (qs : List (Key × Value)) (ks : List Value) (Ts : List Addr), KV ps qs ∧ ts = Ts.map V.ref ∧ ks.length = ps.length ∧ Ts.length = ps.length ∧ ∀ (i : Nat) (k : Key) (u : Value), qs[i]? = some (k, u) → ∃ (T : Addr) (a : Value), Ts[i]? = some T ∧ ks[i]? = some a ∧ RelV (kV k) a ∧ h.IsTuple T #[a, u]
  | [], [], _, _ => ⟨[], [], [], .nil, rfl, rfl, rfl, fun i k u e => by simp at e⟩
  | (k, v) :: ps, t :: ts, hl, hp => by
    obtain ⟨T, e1, e2⟩ := hp 0 k v rfl
    cases e1
    obtain ⟨a, b, ra, rb, ht⟩ := tup e2
    obtain ⟨qs, ks, Ts, h1, rfl, h3, h4, h5⟩ := pairs_val tup (ps := ps) (ts := ts) (Nat.succ.inj hl) fun i k v e => hp (i + 1) k v (by simpa using e)
    refine ⟨(k, b) :: qs, a :: ks, T :: Ts, .cons ⟨rfl, rb⟩ h1, rfl, congrArg (· + 1) h3, congrArg (· + 1) h4, fun i k' u e => ?_⟩
    cases i with
    | zero =>
      cases e
      exact ⟨T, a, rfl, rfl, ra, ht⟩
    | succ i => exact h5 i k' u (by simpa using e)
  | [], _ :: _, hl, _ => by simp at hl
  | _ :: _, [], hl, _ => by simp at hl
theorem mt_update (hc : X.calm = true) : MtR X "dict.update" (rDUpd X.K) := by
  intro pins s σ H x xs v us Q I rx rxs h
  obtain ⟨d, a, acc, ts, ps, rfl, rfl, hd, ha, hl, hp, hz, q⟩ := h
  cases rx
  rw [Vals.ref1 rxs]
  obtain ⟨z, hds, vs, rel, dd⟩ := dk_of I.hok hd
  obtain ⟨its, rv, pl, _⟩ := I.list ha
  obtain ⟨qs, ks, Ts, h1, rfl, h3, h4, h5⟩ := pairs_val (h := s.heap) (fun {T k v} ht => by
    obtain ⟨its, rv, p, _⟩ := I.tuple ht
    cases rv with
    | cons r1 r2 =>
      cases r2 with
      | cons r3 r4 =>
        cases r4
        exact ⟨_, _, r1, r3, p⟩) hl hp
  have lq : qs.length = ps.length := (Paired.length h1).symm
  have lz : (ks.zip (qs.map (·.2))).length = ps.length := by
    rw [List.length_zip, List.length_map, h3, lq, Nat.min_self]
  have its_eq : its = Ts.map Value.ref := by
    have : ∀ {Ts : List Addr} {its : List Value}, Vals (Ts.map V.ref) its → its = Ts.map Value.ref := by
      intro Ts
      induction Ts with
      | nil =>
        intro its h
        cases h
        rfl
      | cons T r ih =>
        intro its h
        cases h with
        | cons h1 h2 =>
          cases h1
          rw [ih h2]
          rfl
    exact this rv
  have zget : ∀ (j : Nat) (k v : Value), (ks.zip (qs.map (·.2)))[j]? = some (k, v) → ∃ key, qs[j]? = some (key, v) ∧ ks[j]? = some k := by
    intro j k v e
    rw [List.getElem?_zip_eq_some, List.getElem?_map] at e
    obtain ⟨e1, e2⟩ := e
    obtain ⟨p, e3, e4⟩ := Option.map_eq_some_iff.mp e2
    have e4 : p.2 = v := e4
    subst e4
    exact ⟨p.1, e3, e1⟩
  have hitems : PairItems s.heap its.toArray (fun j => Ts.getD j 0) (ks.zip (qs.map (·.2))) := by
    refine ⟨by rw [List.size_toArray, its_eq, List.length_map, h4, lz], fun j k v e => ?_⟩
    obtain ⟨key, e1, e2⟩ := zget j k v e
    obtain ⟨T, a', e3, e4, _, ht⟩ := h5 j key v e1
    rw [e2] at e4
    cases e4
    have eT : Ts.getD j 0 = T := by rw [List.getD_eq_getElem?_getD, e3]; rfl
    show _ = some (Value.ref (Ts.getD j 0)) ∧ PairAt s.heap (Ts.getD j 0) k v
    rw [eT]
    refine ⟨?_, .inl ht⟩
    rw [its_eq]
    simp [e3]
  have hdT : ∀ j, j < ps.length → d ≠ Ts.getD j 0 := by
    intro j hj e
    obtain ⟨T, eT⟩ : ∃ T, Ts[j]? = some T := ⟨Ts[j]'(by omega), List.getElem?_eq_getElem _⟩
    obtain ⟨⟨k, v⟩, ek⟩ : ∃ p, ps[j]? = some p := ⟨ps[j], List.getElem?_eq_getElem hj⟩
    obtain ⟨T', e1, e2⟩ := hp j k v ek
    have e3 : (Ts.map V.ref)[j]? = some (.ref T) := by rw [List.getElem?_map, eT]; rfl
    rw [e1] at e3
    cases e3
    have e4 : Ts.getD j 0 = T := by rw [List.getD_eq_getElem?_getD, eT]; rfl
    rw [e4] at e
    subst e
    obtain ⟨_, _, p, _⟩ := I.tuple e2
    obtain ⟨o, ho, hcl, _⟩ := p
    obtain ⟨o2, _, _, ho2, hx2, _⟩ := dd
    rw [ho] at ho2
    cases ho2
    have := hx2.1
    rw [hcl] at this
    injection this with z
    exact absurd z (by decide)
  have hda : d ≠ a := by
    intro e
    subst e
    obtain ⟨o, _, ho, hcl, _⟩ := pl
    obtain ⟨o2, _, _, ho2, hx2, _⟩ := dd
    rw [ho] at ho2
    cases ho2
    have := hx2.1
    rw [hcl] at this
    injection this with z
    exact absurd z (by decide)
  refine call_update_pairs (kvs := qs) (wr := []) (PairArg.list a its.toArray (fun j => Ts.getD j 0) (ks.zip (qs.map (·.2)))) (I.ok.hd hc) ⟨pl, hitems⟩ ?_ ?_ dd ?_ fun h' tk dd' hk => ?_
  · intro hm
    rcases List.mem_cons.mp hm with e | hm
    · exact hda e
    · obtain ⟨j, hj, e⟩ := List.mem_map.mp hm
      rw [List.mem_range, lz] at hj
      exact hdT j hj e.symm
  · refine ⟨by rw [lz, lq], fun i key v hr => ?_⟩
    obtain ⟨k, e1, e2⟩ := zget i key v hr
    obtain ⟨T, a', e3, e4, e5, _⟩ := h5 i k v e1
    rw [e2] at e4
    cases e4
    exact ⟨k, e1, kV_is e5⟩
  · rw [lz, ← Paired.length rel]
    exact hz
  · have hl2 : (putAll acc ps).length ≤ sizeLine := Nat.le_trans (putAll_len ps acc) hz
    have he : ∃ o, h'.get? d = some o := let ⟨q, _, _, hq, _⟩ := dd'; ⟨q, hq⟩
    exact ⟨.non, _, I.write (x := d) (e := d) (t' := tk) (by rw [hd]; exact True.intro) (.inl rfl) (fun b o hb e => hk b o hb (by simp) e) he (dk_new hl2 hds (kv_all h1 rel) dd'), rfl, q⟩
end
section
variable {K : PySem.W.Frag} {mg : MX} {W : WX}
/-- methods that change a dict -/
def MtD (K : PySem.W.Frag) (r : V → List V → Hp → VK → Prop) (g : List (Key × D) → List D → Option (List (Key × D) × D)) : Prop := ∀ (G H : Hp) (l : Addr) (vs : List (Key × V)) (ws : List V) (ds ds' : List (Key × D)) (es : List D) (d : D), Sub G H → H l = some (.dK vs) → RK K G vs ds → RA K G ws es → g ds es = some (ds', d) →
  ∃ vs' v, RK K G vs' ds' ∧ R K G v d ∧ ∀ Q : VK, Q v (upd H l (.dK vs')) → r (.ref l) ws H Q
def eBmD (g : List (Key × D) → List D → Option (List (Key × D) × D)) (fo : Env → Out EV) (fa : Env → Out (List EV)) : Env → Out EV := fun env => (fo env).bind fun o e1 => (Out.of ((slotD o).bind fun i => (ownD e1 i).map fun _ => i) e1).bind fun i e1 => (fa e1).bind fun as e2 =>
  (Out.of (freezes e2 as) e2).bind fun x _ => Out.bind (Out.of ((ownD x.2 i).bind fun ds => (g ds x.1).bind fun y => (setOwn x.2 i (.dic y.1)).map fun e4 => (y.2, e4)) x.2) fun z _ => .val (.dat z.1) z.2
theorem sem_bmD {r : V → List V → Hp → VK → Prop} {g : List (Key × D) → List D → Option (List (Key × D) × D)} {to : TE} {ta : TA} {fo : Env → Out EV} {fa : Env → Out (List EV)} (hr : MtD K r g) (ho : SemD K mg W to fo) (ha : SemA K mg W ta fa) : SemD K mg W (tBM K "dict" r to ta) (eBmD g fo fa) := by
  intro c G env σ H hK hm r0 Q hQ
  subst hK
  refine ho c G env σ H rfl hm r0 _ (post_bind hQ fun o e1 v G1 H1 r1 l1 p1 q1 => ?_)
  cases hi : (slotD o).bind fun i => (ownD e1 i).map fun _ => i with
  | none =>
    rw [hi] at q1
    exact q1.elim
  | some i =>
    rw [hi] at q1
    obtain ⟨i', hi1, hi2⟩ := Option.bind_eq_some_iff.mp hi
    obtain ⟨ds0, hd0, rfl⟩ := Option.map_eq_some_iff.mp hi2
    have ho := slotD_eq hi1
    subst ho
    have hw : σ[i']? = some (some v) := p1
    obtain ⟨p, xs0, rfl, h0, _⟩ := r1.ownD hw hd0
    refine ⟨.inr (.inr (.inl ⟨rfl, .inl ⟨_, h0⟩⟩)), ?_⟩
    refine ha c G1 e1 σ H1 rfl hm r1 _ (post_bind q1 fun as e2 vs G2 H2 r2 l2 p2 q2 => ?_)
    cases hf : freezes e2 as with
    | none =>
      rw [hf] at q2
      exact q2.elim
    | some x =>
      obtain ⟨es, e3⟩ := x
      rw [hf] at q2
      obtain ⟨G3, r3, l3, p3⟩ := r2.freezes p2 hf
      have q2 : Post c G2 σ W (PD c σ) Q (Out.bind (Out.of ((ownD e3 i').bind fun ds => (g ds es).bind fun y => (setOwn e3 i' (.dic y.1)).map fun e4 => (y.2, e4)) e3) fun z _ => .val (.dat z.1) z.2) := q2
      cases hz : (ownD e3 i').bind fun ds => (g ds es).bind fun y => (setOwn e3 i' (.dic y.1)).map fun e4 => (y.2, e4) with
      | none =>
        rw [hz] at q2
        exact q2.elim
      | some z =>
        obtain ⟨d, e4⟩ := z
        rw [hz] at q2
        have q2 : Post c G2 σ W (PD c σ) Q (.val (.dat d) e4) := q2
        obtain ⟨ds, hd, hz⟩ := Option.bind_eq_some_iff.mp hz
        obtain ⟨⟨ds', d'⟩, hg, hz⟩ := Option.bind_eq_some_iff.mp hz
        obtain ⟨e5, hs, hz⟩ := Option.map_eq_some_iff.mp hz
        cases hz
        obtain ⟨p', xs, e1', h1, h2⟩ := r3.ownD hw hd
        cases e1'
        obtain ⟨xs', v', h3, h4, h5⟩ := hr G3 H2 p xs vs ds ds' es d' r3.sub h1 h2 p3 hg
        exact h5 Q (q2 v' G3 _ (r3.mutate hw hs fun H' hH' => ⟨xs', hH', h3⟩) l3 h4)
/-- the pairs of a list -/
def pairsD : List D → Option (List (Key × D))
  | [] => some []
  | .tup [k, d] :: ds => (keyD k).bind fun k => (pairsD ds).map fun r => (k, d) :: r
  | _ :: _ => none
def gUpd : List (Key × D) → List D → Option (List (Key × D) × D) := fun kvs es => match es with
  | [.lst ds] => (pairsD ds).bind fun ps => if kvs.length + ps.length ≤ sizeLine then some (putAllD kvs ps, .non) else none
  | _ => none
theorem RK.putEach {G : Hp} : ∀ {ps : List (Key × D)} {us : List (Key × V)} {ds : List (Key × D)} {vs : List (Key × V)}, RK K G us ps → RK K G vs ds → RK K G (putAll vs us) (putAllD ds ps) := by
  intro ps us ds vs h
  induction ps generalizing us ds vs with
  | nil =>
    cases h
    exact id
  | cons p ps ih =>
    cases h with
    | @cons k _ _ _ _ r t =>
      intro h
      have z := ih t (h.put (k := k) r)
      exact z
theorem pairsD_ok {G H : Hp} (s : Sub G H) : ∀ {ds : List D} {vs : List V} {ps : List (Key × D)}, RA K G vs ds → pairsD ds = some ps → ∃ us : List (Key × V), RK K G us ps ∧ vs.length = us.length ∧ ∀ (i : Nat) (k : Key) (v : V), us[i]? = some (k, v) → ∃ T : Addr, vs[i]? = some (V.ref T) ∧ SqT K H T [kV k, v]
  | _, _, _, .nil, e => by
    cases e
    exact ⟨[], .nil, rfl, fun i k v e => by simp at e⟩
  | _, _, _, .cons (d := d) r t, e => by
    unfold pairsD at e
    split at e
    · rename_i heq
      cases heq
    · rename_i k d' ds' heq
      cases heq
      obtain ⟨kk, hk, e⟩ := Option.bind_eq_some_iff.mp e
      obtain ⟨ps, hps, rfl⟩ := Option.map_eq_some_iff.mp e
      obtain ⟨us, h1, h2, h3⟩ := pairsD_ok s t hps
      cases r with
      | tup hg ha =>
        cases ha with
        | @cons v1 _ _ _ r1 ha =>
          cases ha with
          | @cons v2 _ _ _ r2 ha =>
            cases ha
            have e1 : v1 = kV kk := S.key (G := G) (H := H) (K := K) (.dat r1) hk
            subst e1
            refine ⟨(kk, v2) :: us, .cons r2 h1, congrArg (· + 1) h2, fun i k v e => ?_⟩
            cases i with
            | zero =>
              cases e
              exact ⟨_, rfl, s.sqT hg.1⟩
            | succ i => exact h3 i k v (by simpa using e)
    · cases e
theorem mtd_update : MtD K (rDUpd K) gUpd := by
  intro G H l vs ws ds ds' es d s hl hv hw hg
  unfold gUpd at hg
  split at hg
  · rename_i ts
    obtain ⟨ps, hps, hg⟩ := Option.bind_eq_some_iff.mp hg
    split at hg
    · rename_i hlen
      cases hg
      cases hw with
      | cons h1 h2 =>
        cases h2
        cases h1 with
        | lst ha hr =>
          obtain ⟨us, k1, k2, k3⟩ := pairsD_ok s hr hps
          refine ⟨putAll vs us, .non, RK.putEach k1 hv, .non, fun Q q => ⟨l, _, vs, _, us, rfl, rfl, hl, SqL.of (s.lst ha), k2, k3, ?_, q⟩⟩
          rw [hv.length, k1.length]
          exact hlen
    · cases hg
  · cases hg
end
end DL

/-! DLJ: a dict of dicts that a body makes and changes in place: kept in the frame's extra things -/
namespace DL
open PySem L2 PySem.Spec PyProof.Rows
section
variable {c : Ctx} {G H : Hp} {env : Env} {σ : L2.St}
/-- the frame's extra things change, new ones come -/
theorem Rel.reframe {f' : Addr → Option HO} {H' : Hp} (r : Rel c G env σ H) (h0 : ∀ a o, c.fr a = some o → c.H0 a = none ∧ ∀ ob u, o ≠ .frz ob u)
    (hn : ∀ a o, f' a = some o → (c.fr a ≠ none ∨ H a = none) ∧ H' a = some o) (hs : ∀ a, c.fr a = none → H a ≠ none → H' a = H a) (hk : ∀ a, H a ≠ none → H' a ≠ none) : Rel { c with fr := f' } G env σ H' := by
  have nfG : ∀ a o, G a = some o → c.fr a = none := fun a o e => by
    cases z : c.fr a with
    | none => rfl
    | some u =>
      have := (r.frs a u z).2.1
      rw [e] at this
      cases this
  have out : ∀ a o, H a = some o → c.fr a = none → H' a = some o := fun a o e z => by
    rw [hs a z (by rw [e]; exact fun w => by cases w)]
    exact e
  refine ⟨fun a o e => ?_, r.g0, r.gfix, fun a o e hp => ?_, fun a ob u e => ?_, fun i p e => ⟨(r.pah i p e).1, hk p (r.pah i p e).2⟩, r.pinj, r.len, fun i s e => ?_, r.dist, fun a o e => ?_, r.pars⟩
  · rcases r.sub a o e with h | ⟨h1, ob, h2⟩
    · exact .inl (out a o h (nfG a o e))
    · exact .inr ⟨h1, ob, out a _ h2 (nfG a o e)⟩
  · have z : c.fr a = none := by
      cases z : c.fr a with
      | none => rfl
      | some u =>
        have := (h0 a u z).1
        have e : c.H0 a = some o := e
        rw [e] at this
        cases this
    rcases r.keep a o e hp with h | h
    · exact .inl (out a o h z)
    · exact .inr h
  · have h := r.lks a ob u e
    refine out a _ h ?_
    cases z : c.fr a with
    | none => rfl
    | some w =>
      have h1 := (r.frs a w z).1
      rw [h] at h1
      exact absurd (Option.some.inj h1).symm ((h0 a w z).2 ob u)
  · have so : SlotOk c G H i σ[i]? s := r.slot i s e
    refine (so.heap (c := c) (Gle.refl G) fun p hw hg hs2 => ⟨hg, ?_⟩ : SlotOk c G H' i σ[i]? s)
    obtain ⟨d, hd⟩ := hs2
    have z : c.fr p = none := r.frown (d := d) (by rcases hd with rfl | rfl <;> simp [e]) hw
    refine hs p z ?_
    rcases hd with rfl | rfl
    · obtain ⟨q, e1, _, _, ro⟩ := so
      rw [hw] at e1
      cases e1
      obtain ⟨o, ho, _⟩ := ro.has
      rw [ho]
      intro w
      cases w
    · obtain ⟨q, e1, _, _, ro⟩ := so
      rw [hw] at e1
      cases e1
      obtain ⟨o, ho, _⟩ := ro.has
      rw [ho]
      intro w
      cases w
  · obtain ⟨h1, h2⟩ := hn a o e
    cases z : c.fr a with
    | some u =>
      obtain ⟨_, k2, k3⟩ := r.frs a u z
      exact ⟨h2, k2, k3⟩
    | none =>
      have hH : H a = none := by
        rcases h1 with h1 | h1
        · exact absurd z h1
        · exact h1
      refine ⟨h2, r.freshG hH, fun i d hi hw => ?_⟩
      have so := r.slot i
      rcases hi with hi | hi
      · obtain ⟨q, e1, _, _, ro⟩ := so _ hi
        rw [hw] at e1
        cases e1
        obtain ⟨o, ho, _⟩ := ro.has
        rw [hH] at ho
        cases ho
      · obtain ⟨q, e1, _, _, ro⟩ := so _ hi
        rw [hw] at e1
        cases e1
        obtain ⟨o, ho, _⟩ := ro.has
        rw [hH] at ho
        cases ho
/-- a slot's value is learnt, or forgotten -/
theorem Rel.learn {i : Nat} {v : V} {s : Slot} (r : Rel c G env σ H) (hw : σ[i]? = some (some v)) (hs : storable env i = true) (so : SlotOk c G H i (some (some v)) s) (hd : ∀ d, s ≠ .own d ∧ s ≠ .par d ∧ s ≠ .fpar d) : Rel c G (env.set i s) σ H := by
  have h := r.store hs so (fun d p e => absurd e (hd d).1) (fun d => ⟨(hd d).2.1, (hd d).2.2⟩)
  have e : σ.set i (some v) = σ := by
    apply List.ext_getElem?
    intro j
    by_cases z : i = j
    · subst z
      rw [List.getElem?_set_self (List.getElem?_eq_some_iff.mp hw).1, hw]
    · rw [List.getElem?_set_ne z]
  rw [e] at h
  exact h
end
/-! ### the table: name, the inner dict's place, its rows -/
abbrev Tb := List (Str × Addr × List (Str × Int))
def rowO (row : List (Str × Int)) : HO := .dK (row.map fun p => (Sum.inr p.1, V.int p.2))
def outO (T : Tb) : HO := .dK (T.map fun e => (Sum.inr e.1, V.ref e.2.1))
def frT (A : Addr) (T : Tb) : Addr → Option HO := fun a => if a = A then some (outO T) else (T.find? fun e => decide (e.2.1 = a)).map fun e => rowO e.2.2
def DistT (A : Addr) (T : Tb) : Prop := (∀ e ∈ T, e.2.1 ≠ A) ∧ (T.map (·.2.1)).Nodup
theorem frT_some {A a : Addr} {T : Tb} {o : HO} (h : frT A T a = some o) : (a = A ∧ o = outO T) ∨ ∃ e ∈ T, e.2.1 = a ∧ o = rowO e.2.2 := by
  unfold frT at h
  split at h
  · rename_i z
    cases h
    exact .inl ⟨z, rfl⟩
  · obtain ⟨e, h1, rfl⟩ := Option.map_eq_some_iff.mp h
    exact .inr ⟨e, List.mem_of_find?_eq_some h1, by simpa using List.find?_some h1, rfl⟩
theorem frT_self (A : Addr) (T : Tb) : frT A T A = some (outO T) := if_pos rfl
theorem frT_at {A : Addr} : ∀ {T : Tb}, DistT A T → ∀ e ∈ T, frT A T e.2.1 = some (rowO e.2.2) := by
  intro T h e he
  unfold frT
  rw [if_neg (h.1 e he)]
  have : (T.find? fun x => decide (x.2.1 = e.2.1)) = some e := by
    obtain ⟨h1, h2⟩ := h
    clear h1
    induction T with
    | nil => cases he
    | cons x r ih =>
      rw [List.map_cons, List.nodup_cons] at h2
      rcases List.mem_cons.mp he with rfl | he'
      · rw [List.find?_cons, decide_eq_true rfl]
      · have ne : ¬ x.2.1 = e.2.1 := fun z => h2.1 (by rw [z]; exact List.mem_map.mpr ⟨e, he', rfl⟩)
        rw [List.find?_cons, decide_eq_false ne]
        exact ih he' h2.2
  rw [this]
  rfl
/-! ### the plain table -/
def rowP (t : Int) (row : List (Str × Int)) (s : Str) : Option (List (Str × Int)) := if row.length < sizeLine then some (if (row.any fun p => decide (p.1 = s)) = true then row else row ++ [(s, t)]) else none
def rowsP (t : Int) : List (Str × Int) → List Str → Option (List (Str × Int))
  | row, [] => some row
  | row, s :: ss => (rowP t row s).bind fun r => rowsP t r ss
abbrev Tab := List (Str × List (Str × Int))
def goP (t : Int) (first : Str) (rest : List Str) : Tab → Option Tab
  | [] => (rowsP t [] rest).map fun r => [(first, r)]
  | (k, r) :: tab => if k = first then (rowsP t r rest).map fun r' => (k, r') :: tab else (goP t first rest tab).map fun x => (k, r) :: x
def tabP (t : Int) (first : Str) (rest : List Str) (tab : Tab) : Option Tab := if tab.length < sizeLine then goP t first rest tab else none
def namP (t : Int) : List Str → Tab → Option Tab
  | [], tab => some tab
  | f :: rest, tab => (tabP t f rest tab).bind fun x => namP t rest x
def secP : Nat → List (List Str) → Tab → Option Tab
  | _, [], tab => some tab
  | i, names :: ls, tab => (namP (i : Nat) names tab).bind fun x => secP (i + 1) ls x
def erT (T : Tb) : Tab := T.map fun e => (e.1, e.2.2)
theorem goP_old {t : Int} {first : Str} {rest : List Str} {q : Addr} {row : List (Str × Int)} {T2 : Tb} : ∀ {T1 : Tb}, (∀ e ∈ T1, e.1 ≠ first) → goP t first rest (erT (T1 ++ (first, q, row) :: T2)) = (rowsP t row rest).map fun r => erT (T1 ++ (first, q, r) :: T2)
  | [], _ => by
    show (if first = first then _ else _) = _
    rw [if_pos rfl]
    rfl
  | e :: T1, h => by
    show (if e.1 = first then _ else (goP t first rest (erT (T1 ++ (first, q, row) :: T2))).map _) = _
    rw [if_neg (h e (List.mem_cons_self ..)), goP_old fun x hx => h x (List.mem_cons_of_mem _ hx), Option.map_map]
    rfl
theorem goP_new {t : Int} {first : Str} {rest : List Str} {q : Addr} : ∀ {T : Tb}, (∀ e ∈ T, e.1 ≠ first) → goP t first rest (erT T) = (rowsP t [] rest).map fun r => erT (T ++ [(first, q, r)])
  | [], _ => rfl
  | e :: T, h => by
    show (if e.1 = first then _ else (goP t first rest (erT T)).map _) = _
    rw [if_neg (h e (List.mem_cons_self ..)), goP_new (q := q) fun x hx => h x (List.mem_cons_of_mem _ hx), Option.map_map]
    rfl
theorem outO_find {s : Str} : ∀ {T : Tb}, (valV (T.map fun e => ((Sum.inr e.1 : Key), V.ref e.2.1)) (.inr s) = none ∧ ∀ e ∈ T, e.1 ≠ s) ∨ ∃ T1 q row T2, T = T1 ++ (s, q, row) :: T2 ∧ (∀ e ∈ T1, e.1 ≠ s) ∧ valV (T.map fun e => ((Sum.inr e.1 : Key), V.ref e.2.1)) (.inr s) = some (.ref q)
  | [] => .inl ⟨rfl, fun e h => nomatch h⟩
  | (k, q, row) :: T => by
    by_cases e : k = s
    · subst e
      exact .inr ⟨[], q, row, T, rfl, (fun e h => nomatch h), valV_pos rfl⟩
    · have ne : ¬ (Sum.inr k : Key) = .inr s := fun z => e (Sum.inr.inj z)
      rcases outO_find (s := s) (T := T) with ⟨h1, h2⟩ | ⟨T1, q1, row1, T2, rfl, h2, h3⟩
      · refine .inl ⟨(valV_neg ne).trans h1, fun x hx => ?_⟩
        rcases List.mem_cons.mp hx with rfl | hx
        · exact e
        · exact h2 x hx
      · refine .inr ⟨(k, q, row) :: T1, q1, row1, T2, rfl, fun x hx => ?_, (valV_neg ne).trans h3⟩
        rcases List.mem_cons.mp hx with rfl | hx
        · exact e
        · exact h2 x hx
theorem row_find (s : Str) (row : List (Str × Int)) : (row.any fun p => decide (p.1 = s)) = (valV (row.map fun p => ((Sum.inr p.1 : Key), V.int p.2)) (.inr s)).isSome := by
  rw [← valV_any]
  induction row with
  | nil => rfl
  | cons p r ih =>
    rw [List.any_cons, List.map_cons, List.any_cons, ih]
    congr 1
    by_cases e : p.1 = s
    · rw [decide_eq_true e, decide_eq_true (show (Sum.inr p.1 : Key) = .inr s by rw [e])]
    · rw [decide_eq_false e, decide_eq_false (fun z : (Sum.inr p.1 : Key) = .inr s => e (Sum.inr.inj z))]

/-! ### the state -/
theorem ne_fr {f : Addr → Option HO} {a : Addr} {o : HO} (h : f a = some o) : f a ≠ none := fun z => by
  rw [h] at z
  cases z
def E0 (d : D) : Env := [.imm d, .no, .no, .no, .no, .no, .no, .no]
abbrev cF (c : Ctx) (A : Addr) (T : Tb) : Ctx := { c with fr := frT A T }
structure Sec (c : Ctx) (G1 : Hp) (d : D) (A : Addr) (T : Tb) (σ : L2.St) (H : Hp) : Prop where
  rel : ∃ G, Gle G1 G ∧ Rel (cF c A T) G (E0 d) σ H
  dist : DistT A T
  h0 : c.H0 A = none ∧ ∀ e ∈ T, c.H0 e.2.1 = none
  s1 : σ[1]? = some (some (.ref A))
section
variable {c : Ctx} {G1 : Hp} {d : D} {A : Addr} {T : Tb} {σ : L2.St} {H : Hp}
theorem Sec.atA (s : Sec c G1 d A T σ H) : H A = some (outO T) := by
  obtain ⟨G, _, r⟩ := s.rel
  exact (r.frs A _ (frT_self A T)).1
theorem Sec.at (s : Sec c G1 d A T σ H) {e : Str × Addr × List (Str × Int)} (he : e ∈ T) : H e.2.1 = some (rowO e.2.2) := by
  obtain ⟨G, _, r⟩ := s.rel
  exact (r.frs _ _ (frT_at s.dist e he)).1
theorem Sec.set (s : Sec c G1 d A T σ H) {i : Nat} (v : V) (hi : 2 ≤ i) (h8 : i < 8) : Sec c G1 d A T (σ.set i (some v)) H := by
  obtain ⟨G, l, r⟩ := s.rel
  have e : (E0 d).set i .no = E0 d := by
    rcases (by omega : i = 2 ∨ i = 3 ∨ i = 4 ∨ i = 5 ∨ i = 6 ∨ i = 7) with rfl | rfl | rfl | rfl | rfl | rfl <;> rfl
  have hs : storable (E0 d) i = true := by
    rcases (by omega : i = 2 ∨ i = 3 ∨ i = 4 ∨ i = 5 ∨ i = 6 ∨ i = 7) with rfl | rfl | rfl | rfl | rfl | rfl <;> rfl
  have r2 := r.store (v := v) (s := .no) hs trivial (fun _ _ z => nomatch z) (fun _ => ⟨(fun z => nomatch z), (fun z => nomatch z)⟩)
  rw [e] at r2
  exact ⟨⟨G, l, r2⟩, s.dist, s.h0, by rw [List.getElem?_set_ne (by omega)]; exact s.s1⟩
theorem frT_h0 (s : Sec c G1 d A T σ H) : ∀ a o, frT A T a = some o → c.H0 a = none ∧ ∀ ob u, o ≠ .frz ob u := by
  intro a o h
  rcases frT_some h with ⟨rfl, rfl⟩ | ⟨e, he, rfl, rfl⟩
  · exact ⟨s.h0.1, fun ob u z => nomatch z⟩
  · exact ⟨s.h0.2 e he, fun ob u z => nomatch z⟩
theorem Sec.tmp (s : Sec c G1 d A T σ H) {q : Addr} {o : HO} (hq : H q = none) : Sec c G1 d A T σ (upd H q o) := by
  obtain ⟨G, l, r⟩ := s.rel
  exact ⟨⟨G, l, r.newT hq⟩, s.dist, s.h0, s.s1⟩
/-- a new inner dict, put into the outer one -/
theorem Sec.add (s : Sec c G1 d A T σ H) {q : Addr} {x : Str} (hq : H q = none) : Sec c G1 d A (T ++ [(x, q, [])]) σ (upd (upd H q (.dK [])) A (outO (T ++ [(x, q, [])]))) := by
  obtain ⟨G, l, r⟩ := s.rel
  have hA := s.atA
  have qA : q ≠ A := fun z => by
    rw [z, hA] at hq
    cases hq
  have qT : ∀ e ∈ T, e.2.1 ≠ q := fun e he z => by
    have := s.at he
    rw [z, hq] at this
    cases this
  have dist : DistT A (T ++ [(x, q, [])]) := by
    refine ⟨fun e he => ?_, ?_⟩
    · rcases List.mem_append.mp he with he | he
      · exact s.dist.1 e he
      · rw [List.mem_singleton.mp he]
        exact qA
    · rw [List.map_append, List.nodup_append]
      refine ⟨s.dist.2, by simp, fun a ha b hb => ?_⟩
      obtain ⟨e, he, rfl⟩ := List.mem_map.mp ha
      have : b = q := by simpa using hb
      rw [this]
      exact qT e he
  have hq0 : c.H0 q = none := r.fresh0 hq
  refine ⟨⟨G, l, Rel.reframe (c := cF c A T) r (fun a o h => frT_h0 s a o h) (fun a o h => ?_) (fun a h1 h2 => ?_) (fun a h => ?_)⟩, dist, ⟨s.h0.1, fun e he => ?_⟩, s.s1⟩
  · rcases frT_some h with ⟨rfl, rfl⟩ | ⟨e, he, rfl, rfl⟩
    · exact ⟨.inl (ne_fr (frT_self _ _)), upd_same⟩
    · rcases List.mem_append.mp he with he | he
      · refine ⟨.inl (ne_fr (frT_at s.dist e he)), ?_⟩
        rw [upd_ne (s.dist.1 e he), upd_ne (qT e he)]
        exact s.at he
      · rw [List.mem_singleton.mp he]
        refine ⟨.inr hq, ?_⟩
        rw [upd_ne qA]
        exact upd_same
  · have n1 : a ≠ A := fun z => by
      have h1 : frT A T a = none := h1
      rw [z, frT_self] at h1
      cases h1
    have n2 : a ≠ q := fun z => h2 (by rw [z]; exact hq)
    rw [upd_ne n1, upd_ne n2]
  · by_cases z : a = A
    · rw [z, upd_same]
      exact fun w => nomatch w
    · rw [upd_ne z]
      by_cases z2 : a = q
      · rw [z2, upd_same]
        exact fun w => nomatch w
      · rw [upd_ne z2]
        exact h
  · rcases List.mem_append.mp he with he | he
    · exact s.h0.2 e he
    · rw [List.mem_singleton.mp he]
      exact hq0
/-- an inner dict changes -/
theorem Sec.row {T1 T2 : Tb} {x : Str} {q : Addr} {row row' : List (Str × Int)} (s : Sec c G1 d A (T1 ++ (x, q, row) :: T2) σ H) : Sec c G1 d A (T1 ++ (x, q, row') :: T2) σ (upd H q (rowO row')) := by
  obtain ⟨G, l, r⟩ := s.rel
  have hm : (x, q, row) ∈ T1 ++ (x, q, row) :: T2 := List.mem_append_right _ (List.mem_cons_self ..)
  have eo : outO (T1 ++ (x, q, row') :: T2) = outO (T1 ++ (x, q, row) :: T2) := by
    unfold outO
    rw [List.map_append, List.map_append, List.map_cons, List.map_cons]
  have ea : (T1 ++ (x, q, row') :: T2).map (·.2.1) = (T1 ++ (x, q, row) :: T2).map (·.2.1) := by
    rw [List.map_append, List.map_append, List.map_cons, List.map_cons]
  have qA : q ≠ A := s.dist.1 _ hm
  have nd := s.dist.2
  rw [List.map_append, List.map_cons, List.nodup_append, List.nodup_cons] at nd
  obtain ⟨_, ⟨nd1, _⟩, nd2⟩ := nd
  have other : ∀ e, e ∈ T1 ∨ e ∈ T2 → e.2.1 ≠ q := by
    intro e he z
    rcases he with he | he
    · exact nd2 e.2.1 (List.mem_map.mpr ⟨e, he, rfl⟩) q (List.mem_cons_self ..) z
    · exact nd1 (List.mem_map.mpr ⟨e, he, z⟩)
  have dist : DistT A (T1 ++ (x, q, row') :: T2) := by
    refine ⟨fun e he => ?_, by rw [ea]; exact s.dist.2⟩
    rcases List.mem_append.mp he with he | he
    · exact s.dist.1 e (List.mem_append_left _ he)
    · rcases List.mem_cons.mp he with rfl | he
      · exact qA
      · exact s.dist.1 e (List.mem_append_right _ (List.mem_cons_of_mem _ he))
  have old : ∀ e, e ∈ T1 ∨ e ∈ T2 → e ∈ T1 ++ (x, q, row) :: T2 := fun e he => by
    rcases he with he | he
    · exact List.mem_append_left _ he
    · exact List.mem_append_right _ (List.mem_cons_of_mem _ he)
  refine ⟨⟨G, l, Rel.reframe (c := cF c A (T1 ++ (x, q, row) :: T2)) r (fun a o h => frT_h0 s a o h) (fun a o h => ?_) (fun a h1 h2 => ?_) (fun a h => ?_)⟩, dist, ⟨s.h0.1, fun e he => ?_⟩, s.s1⟩
  · rcases frT_some h with ⟨rfl, rfl⟩ | ⟨e, he, rfl, rfl⟩
    · refine ⟨.inl (ne_fr (frT_self _ _)), ?_⟩
      rw [upd_ne (Ne.symm qA), eo]
      exact s.atA
    · have he' : (e ∈ T1 ∨ e ∈ T2) ∨ e = (x, q, row') := by
        rcases List.mem_append.mp he with he | he
        · exact .inl (.inl he)
        · rcases List.mem_cons.mp he with rfl | he
          · exact .inr rfl
          · exact .inl (.inr he)
      rcases he' with he' | rfl
      · refine ⟨.inl (ne_fr (frT_at s.dist e (old e he'))), ?_⟩
        rw [upd_ne (other e he')]
        exact s.at (old e he')
      · exact ⟨.inl (ne_fr (frT_at s.dist (x, q, row) hm)), upd_same⟩
  · have n1 : a ≠ q := fun z => by
      have h1 : frT A (T1 ++ (x, q, row) :: T2) a = none := h1
      rw [z, show frT A _ q = _ from frT_at s.dist _ hm] at h1
      cases h1
    rw [upd_ne n1]
  · by_cases z : a = q
    · rw [z, upd_same]
      exact fun w => nomatch w
    · rw [upd_ne z]
      exact h
  · rcases List.mem_append.mp he with he | he
    · exact s.h0.2 e (List.mem_append_left _ he)
    · rcases List.mem_cons.mp he with rfl | he
      · exact s.h0.2 (x, q, row) hm
      · exact s.h0.2 e (List.mem_append_right _ (List.mem_cons_of_mem _ he))
end
end DL

/-! DLK: the loops over the nested dict -/
namespace DL
open PySem L2 PySem.Spec PyProof.Rows
section
variable {K : PySem.W.Frag} {mg : MX} {W : WX}
theorem raw_for {wi : TI} {g : TG} {tb : TS} {fs : Env → Out Src} {s : Src} {E : Env} {c : Ctx} {G : Hp} {σ : L2.St} {H : Hp} {D : Ends} (hi : SemI K mg W wi fs) (hK : c.K = K) (hm : (c.mg, c.xa) = mg) (r : Rel c G E σ H) (hfs : fs E = .val s E) (hok : ∀ e, s.ok e = true)
    (Pv : Hp → Nat → L2.St → Hp → Prop) (h0 : ∀ G' H', Rel c G' E σ H' → Gle G G' → Pv G' 0 σ H')
    (hst : ∀ G' i σ' H', Gle G G' → i < s.n → Pv G' i σ' H' → ∃ f G2 env2 d, Rel { c with fr := f } G2 env2 σ' H' ∧ Gle G' G2 ∧ s.it env2 i = some d ∧
      ∀ x G3 H3, Rel { c with fr := f } G3 env2 σ' H3 → Gle G2 G3 → R c.K G3 x d → g x σ' H3 fun σ2 H2 => tb { D with nx := Pv G' (i + 1), ct := Pv G' (i + 1), bk := D.nx } σ2 H2)
    (hend : ∀ G' σ' H', Gle G G' → Pv G' s.n σ' H' → (∃ f G2 env2, Rel { c with fr := f } G2 env2 σ' H' ∧ Gle G' G2) ∧ D.nx σ' H') : tFor wi g tb D σ H := by
  refine hi c G E σ H hK hm r _ ?_
  rw [hfs]
  intro J G1 H1 r1 l1 p1
  have p1 : ∀ f l, Turns { c with fr := f, lk := l } G1 J s := p1
  refine ⟨fun i m σ' H' => m = s.n - i ∧ i ≤ s.n ∧ Pv G1 i σ' H', ⟨s.n, by simp, Nat.zero_le _, h0 G1 H1 r1 l1⟩, ?_⟩
  rintro i m σ' H' ⟨rfl, hi2, p⟩
  by_cases hlt : i < s.n
  · obtain ⟨f, G2, env2, d, r2, l2, hd, k⟩ := hst G1 i σ' H' l1 hlt p
    obtain ⟨hgo, hy⟩ := (p1 f c.lk).go i G2 env2 σ' H' d r2 l2 hlt hd
    refine .inr ⟨hgo, Pv G1 (i + 1), fun σ3 H3 w => ⟨s.n - (i + 1), by omega, rfl, hlt, w⟩, fun x H3 y => ?_⟩
    obtain ⟨G3, r3, l3, p3⟩ := hy x H3 y
    exact k x G3 H3 r3 l3 p3
  · obtain rfl : i = s.n := by omega
    obtain ⟨⟨f, G2, env2, r2, l2⟩, q⟩ := hend G1 σ' H' l1 p
    exact .inl ⟨(p1 f c.lk).stop G2 env2 σ' H' r2 l2 (hok env2), q⟩
/-- for second in ..: row.setdefault(second, at) -/
theorem in_loop {wi : TI} {fs : Env → Out Src} {rest : List Str} {E : Env} {c : Ctx} {G1 G : Hp} {σ : L2.St} {H : Hp} {De : Ends} {d : D} {A q : Addr} {T1 T2 : Tb} {x : Str} {row fin : List (Str × Int)} {t : Int}
    (hi : SemI K mg W wi fs) (hK : c.K = K) (hm : (c.mg, c.xa) = mg) (s : Sec c G1 d A (T1 ++ (x, q, row) :: T2) σ H) (hG : Gle G1 G) (r : Rel (cF c A (T1 ++ (x, q, row) :: T2)) G E σ H) (hE : ∀ G' H', Rel (cF c A (T1 ++ (x, q, row) :: T2)) G' E σ H' → Rel (cF c A (T1 ++ (x, q, row) :: T2)) G' (E0 d) σ H')
    (hfs : fs E = .val (datS (rest.map D.str)) E) (h6 : σ[6]? = some (some (.ref q))) (h2 : σ[2]? = some (some (.int t))) (h8 : σ.length = 8) (hp : rowsP t row rest = some fin)
    (hD : ∀ G' σ' H', Gle G1 G' → Sec c G' d A (T1 ++ (x, q, fin) :: T2) σ' H' → (∀ j, j ≠ 7 → σ'[j]? = σ[j]?) → σ'.length = 8 → De.nx σ' H') :
    tFor wi (gName 7) (tDrop (tDSetd (tVar 6) (tVar 7) (tVar 2))) De σ H := by
  refine raw_for (c := cF c A (T1 ++ (x, q, row) :: T2)) hi hK hm r hfs (fun _ => rfl)
    (fun G' i σ' H' => ∃ row', Sec c G' d A (T1 ++ (x, q, row') :: T2) σ' H' ∧ rowsP t row' (rest.drop i) = some fin ∧ (∀ j, j ≠ 7 → σ'[j]? = σ[j]?) ∧ σ'.length = 8)
    (fun G' H' r' l' => ⟨row, ⟨⟨G', Gle.refl _, hE G' H' r'⟩, s.dist, s.h0, s.s1⟩, hp, (fun _ _ => rfl), h8⟩) ?_ ?_
  · rintro G' i σ' H' l' hlt ⟨row', s', hp', hσ, hl⟩
    have hlt : i < (rest.map D.str).length := hlt
    rw [List.length_map] at hlt
    obtain ⟨G2, l2, r2⟩ := s'.rel
    refine ⟨_, G2, E0 d, .str rest[i], r2, l2, ?_, fun y G3 H3 r3 l3 hy => ?_⟩
    · show (rest.map D.str)[i]? = _
      rw [List.getElem?_map, List.getElem?_eq_getElem hlt]
      rfl
    · obtain rfl : y = .str rest[i] := by
        cases hy
        rfl
      have s3 : Sec c G' d A (T1 ++ (x, q, row') :: T2) σ' H3 := ⟨⟨G3, l2.trans l3, r3⟩, s'.dist, s'.h0, s'.s1⟩
      have s4 := s3.set (i := 7) (V.str rest[i]) (by omega) (by omega)
      have hq : H3 q = some (rowO row') := s3.at (e := (x, q, row')) (List.mem_append_right _ (List.mem_cons_self ..))
      rw [List.drop_eq_getElem_cons hlt] at hp'
      obtain ⟨row2, hr2, hp2⟩ := Option.bind_eq_some_iff.mp hp'
      unfold rowP at hr2
      split at hr2
      · rename_i hlen
        have k2 : ∀ j, j ≠ 7 → (σ'.set 7 (some (V.str rest[i])))[j]? = σ[j]? := fun j hj => by
          rw [List.getElem?_set_ne (Ne.symm hj)]
          exact hσ j hj
        have k7 : (σ'.set 7 (some (V.str rest[i])))[7]? = some (some (V.str rest[i])) := List.getElem?_set_self (by omega)
        show tDrop (tDSetd (tVar 6) (tVar 7) (tVar 2)) _ (σ'.set 7 (some (V.str rest[i]))) H3
        refine ⟨.ref q, (k2 6 (by omega)).trans h6, q, rfl, .inl ⟨_, .inl hq⟩, .str rest[i], k7, .int t, (k2 2 (by omega)).trans h2, _, .inr rest[i], hq, rfl, by rw [List.length_map]; exact hlen, fun v hv => ?_, fun hv => ?_⟩
        · have ha : (row'.any fun p => decide (p.1 = rest[i])) = true := by
            rw [row_find, hv]
            rfl
          rw [if_pos ha] at hr2
          cases hr2
          exact ⟨row', s4, hp2, k2, by rw [List.length_set]; exact hl⟩
        · have ha : ¬ (row'.any fun p => decide (p.1 = rest[i])) = true := by
            rw [row_find, hv]
            exact Bool.false_ne_true
          rw [if_neg ha] at hr2
          cases hr2
          rw [putK_new _ hv]
          have e : (HO.dK (row'.map (fun p => ((Sum.inr p.1 : Key), V.int p.2)) ++ [((Sum.inr rest[i] : Key), V.int t)])) = rowO (row' ++ [(rest[i], t)]) := by
            unfold rowO
            rw [List.map_append]
            rfl
          rw [e]
          exact ⟨_, s4.row, hp2, k2, by rw [List.length_set]; exact hl⟩
      · cases hr2
  · rintro G' σ' H' l' ⟨row', s', hp', hσ, hl⟩
    obtain ⟨G2, l2, r2⟩ := s'.rel
    have e : (datS (rest.map D.str)).n = rest.length := List.length_map ..
    rw [e, List.drop_length] at hp'
    cases hp'
    exact ⟨⟨_, G2, _, r2, l2⟩, hD G' σ' H' (hG.trans l') s' hσ hl⟩
theorem Sec.le {c : Ctx} {G1 G2 : Hp} {d : D} {A : Addr} {T : Tb} {σ : L2.St} {H : Hp} (s : Sec c G2 d A T σ H) (l : Gle G1 G2) : Sec c G1 d A T σ H := by
  obtain ⟨G, l2, r⟩ := s.rel
  exact ⟨⟨G, l.trans l2, r⟩, s.dist, s.h0, s.s1⟩
def E3 (d : D) (ns : List D) : Env := [.imm d, .no, .no, .imm (.tup ns), .no, .no, .no, .no]
def E4 (d : D) (ns : List D) (j : Nat) : Env := [.imm d, .no, .no, .imm (.tup ns), .imm (.int (j : Nat)), .no, .no, .no]
theorem learn3 {c : Ctx} {G H : Hp} {σ : L2.St} {d : D} {ns : List D} {v : V} (r : Rel c G (E0 d) σ H) (h3 : σ[3]? = some (some v)) (hv : R c.K G v (.tup ns)) : Rel c G (E3 d ns) σ H :=
  r.learn (i := 3) (s := .imm (.tup ns)) h3 rfl ⟨v, rfl, hv⟩ fun _ => ⟨(fun z => nomatch z), (fun z => nomatch z), (fun z => nomatch z)⟩
theorem learn4 {c : Ctx} {G H : Hp} {σ : L2.St} {d : D} {ns : List D} {j : Nat} (r : Rel c G (E3 d ns) σ H) (h4 : σ[4]? = some (some (.int (j : Nat)))) : Rel c G (E4 d ns j) σ H :=
  r.learn (i := 4) (s := .imm (.int (j : Nat))) h4 rfl ⟨_, rfl, .int _⟩ fun _ => ⟨(fun z => nomatch z), (fun z => nomatch z), (fun z => nomatch z)⟩
theorem forget4 {c : Ctx} {G H : Hp} {σ : L2.St} {d : D} {ns : List D} {j : Nat} {v u : V} (r : Rel c G (E4 d ns j) σ H) (h3 : σ[3]? = some (some v)) (h4 : σ[4]? = some (some u)) : Rel c G (E0 d) σ H :=
  (r.learn (i := 4) (s := .no) h4 rfl trivial fun _ => ⟨(fun z => nomatch z), (fun z => nomatch z), (fun z => nomatch z)⟩).learn (i := 3) (s := .no) h3 rfl trivial fun _ => ⟨(fun z => nomatch z), (fun z => nomatch z), (fun z => nomatch z)⟩
theorem forget3 {c : Ctx} {G H : Hp} {σ : L2.St} {d : D} {ns : List D} {v : V} (r : Rel c G (E3 d ns) σ H) (h3 : σ[3]? = some (some v)) : Rel c G (E0 d) σ H :=
  r.learn (i := 3) (s := .no) h3 rfl trivial fun _ => ⟨(fun z => nomatch z), (fun z => nomatch z), (fun z => nomatch z)⟩
/-- for place, first in enumerate(names): .. -/
theorem mid_loop {wi wi3 : TI} {fs fs3 : Env → Out Src} {names : List Str} {c : Ctx} {G1 : Hp} {σ : L2.St} {H : Hp} {De : Ends} {d : D} {A : Addr} {T : Tb} {fin : Tab} {t : Int} {v3 : V}
    (hi : SemI K mg W wi fs) (hi3 : SemI K mg W wi3 fs3) (hK : c.K = K) (hm : (c.mg, c.xa) = mg) (s : Sec c G1 d A T σ H)
    (hfs : fs (E3 d (names.map D.str)) = .val (enS (datS (names.map D.str))) (E3 d (names.map D.str))) (hfs3 : ∀ j, j < names.length → fs3 (E4 d (names.map D.str) j) = .val (datS ((names.drop (j + 1)).map D.str)) (E4 d (names.map D.str) j))
    (h2 : σ[2]? = some (some (.int t))) (h3 : σ[3]? = some (some v3)) (hv3 : R c.K G1 v3 (.tup (names.map D.str))) (h8 : σ.length = 8) (hp : namP t names (erT T) = some fin)
    (hD : ∀ G' σ' H' T', Gle G1 G' → Sec c G' d A T' σ' H' → erT T' = fin → σ'.length = 8 → De.nx σ' H') :
    tFor wi (gTup K 2 (gCons (gName 4) (gCons (gName 5) gNil))) (tSeq (tAsg (tDSetd (tVar 1) (tVar 5) tDNewK) (gName 6)) (tFor wi3 (gName 7) (tDrop (tDSetd (tVar 6) (tVar 7) (tVar 2))))) De σ H := by
  subst hK
  obtain ⟨G, hG, r⟩ := s.rel
  refine raw_for (c := cF c A T) (s := enS (datS (names.map D.str))) hi rfl hm (learn3 r h3 (hv3.mono hG.sub)) hfs (fun _ => rfl)
    (fun G' i σ' H' => ∃ T', Sec c G' d A T' σ' H' ∧ namP t (names.drop i) (erT T') = some fin ∧ σ'[2]? = some (some (.int t)) ∧ σ'[3]? = some (some v3) ∧ σ'.length = 8)
    (fun G' H' r' l' => ⟨T, ⟨⟨G', Gle.refl _, forget3 r' h3⟩, s.dist, s.h0, s.s1⟩, hp, h2, h3, h8⟩) ?_ ?_
  · rintro G' j σ' H' l' hlt ⟨T', s', hp', k2, k3, k8⟩
    have hlt : j < (names.map D.str).length := hlt
    rw [List.length_map] at hlt
    obtain ⟨G2, l2, r2⟩ := s'.rel
    refine ⟨_, G2, E0 d, .prs [.int (j : Nat), .str names[j]], r2, l2, ?_, fun x G3 H3 r3 l3 hx => ?_⟩
    · show ((names.map D.str)[j]?).map _ = _
      rw [List.getElem?_map, List.getElem?_eq_getElem hlt]
      rfl
    · cases hx with
      | prs hT ha =>
        cases ha with
        | cons a1 ha =>
          cases ha with
          | cons a2 ha =>
            cases ha
            cases a1
            cases a2
            have s3 : Sec c G' d A T' σ' H3 := ⟨⟨G3, l2.trans l3, r3⟩, s'.dist, s'.h0, s'.s1⟩
            refine ⟨_, _, rfl, r3.sub.sqT hT, rfl, _, _, rfl, _, _, rfl, rfl, ?_⟩
            have s4 := (s3.set (i := 4) (V.int (j : Nat)) (by omega) (by omega)).set (i := 5) (V.str names[j]) (by omega) (by omega)
            have m8 : ((σ'.set 4 (some (V.int (j : Nat)))).set 5 (some (V.str names[j]))).length = 8 := by rw [List.length_set, List.length_set]; exact k8
            have m2 : ((σ'.set 4 (some (V.int (j : Nat)))).set 5 (some (V.str names[j])))[2]? = some (some (.int t)) := by
              rw [List.getElem?_set_ne (by omega), List.getElem?_set_ne (by omega)]
              exact k2
            have m3 : ((σ'.set 4 (some (V.int (j : Nat)))).set 5 (some (V.str names[j])))[3]? = some (some v3) := by
              rw [List.getElem?_set_ne (by omega), List.getElem?_set_ne (by omega)]
              exact k3
            have m4 : ((σ'.set 4 (some (V.int (j : Nat)))).set 5 (some (V.str names[j])))[4]? = some (some (V.int (j : Nat))) := by
              rw [List.getElem?_set_ne (by omega), List.getElem?_set_self (by omega)]
            have m5 : ((σ'.set 4 (some (V.int (j : Nat)))).set 5 (some (V.str names[j])))[5]? = some (some (V.str names[j])) := by
              rw [List.getElem?_set_self (by rw [List.length_set]; omega)]
            generalize hσ4 : (σ'.set 4 (some (V.int (j : Nat)))).set 5 (some (V.str names[j])) = σ4 at s4 m8 m2 m3 m4 m5
            rw [List.drop_eq_getElem_cons hlt] at hp'
            obtain ⟨tab2, ht, hp2⟩ := Option.bind_eq_some_iff.mp hp'
            unfold tabP at ht
            split at ht
            · rename_i hlen
              have hlen : T'.length < sizeLine := by
                unfold erT at hlen
                rwa [List.length_map] at hlen
              -- the rest of the turn, once the inner dict stands
              have go : ∀ (T1 T2 : Tb) (q : Addr) (row r' : List (Str × Int)) (H4 : Hp) (De' : Ends), (∀ σ' H', (∃ T', Sec c G' d A T' σ' H' ∧ namP t (names.drop (j + 1)) (erT T') = some fin ∧ σ'[2]? = some (some (.int t)) ∧ σ'[3]? = some (some v3) ∧ σ'.length = 8) → De'.nx σ' H') →
                  Sec c G' d A (T1 ++ (names[j], q, row) :: T2) σ4 H4 → rowsP t row (names.drop (j + 1)) = some r' → erT (T1 ++ (names[j], q, r') :: T2) = tab2 → tFor wi3 (gName 7) (tDrop (tDSetd (tVar 6) (tVar 7) (tVar 2))) De' (σ4.set 6 (some (.ref q))) H4 := by
                intro T1 T2 q row r' H4 De' hnx s5 hr he
                have s6 := s5.set (i := 6) (V.ref q) (by omega) (by omega)
                obtain ⟨G6, l6, r6⟩ := s6.rel
                have n3 : (σ4.set 6 (some (V.ref q)))[3]? = some (some v3) := by
                  rw [List.getElem?_set_ne (by omega)]
                  exact m3
                have n4 : (σ4.set 6 (some (V.ref q)))[4]? = some (some (V.int (j : Nat))) := by
                  rw [List.getElem?_set_ne (by omega)]
                  exact m4
                have n2 : (σ4.set 6 (some (V.ref q)))[2]? = some (some (V.int t)) := by
                  rw [List.getElem?_set_ne (by omega)]
                  exact m2
                refine in_loop (E := E4 d (names.map D.str) j) hi3 rfl hm s6 l6 (learn4 (learn3 r6 n3 (hv3.mono ((hG.trans l').trans l6).sub)) n4) (fun G7 H7 r7 => forget4 r7 n3 n4) (hfs3 j hlt) (List.getElem?_set_self (by omega)) n2 (by rw [List.length_set]; exact m8) hr ?_
                intro G7 σ7 H7 l7 s7 hσ7 hl7
                exact hnx _ _ ⟨_, s7.le l7, (by rw [he]; exact hp2), (hσ7 2 (by omega)).trans n2, (hσ7 3 (by omega)).trans n3, hl7⟩
              show tDSetd (tVar 1) (tVar 5) tDNewK σ4 H3 _
              refine ⟨.ref A, s4.s1, A, rfl, .inl ⟨_, .inl s4.atA⟩, _, m5, fun p hp0 => ?_⟩
              have pA : p ≠ A := fun z => by
                have := s4.atA
                rw [← z, hp0] at this
                cases this
              refine ⟨T'.map fun e => ((Sum.inr e.1 : Key), V.ref e.2.1), .inr names[j], ?_, rfl, ?_, fun v hv => ?_, fun hv => ?_⟩
              · rw [upd_ne (Ne.symm pA)]
                exact s4.atA
              · rw [List.length_map]
                exact hlen
              · rcases outO_find (s := names[j]) (T := T') with ⟨z1, _⟩ | ⟨T1, q, row, T2, rfl, z2, z3⟩
                · rw [z1] at hv
                  cases hv
                · rw [z3] at hv
                  cases hv
                  rw [goP_old z2] at ht
                  obtain ⟨r', hr', he⟩ := Option.map_eq_some_iff.mp ht
                  exact go T1 T2 q row r' _ _ (fun _ _ z => z) (s4.tmp hp0) hr' he
              · rcases outO_find (s := names[j]) (T := T') with ⟨z1, z2⟩ | ⟨T1, q, row, T2, rfl, z2, z3⟩
                · rw [goP_new (q := p) z2] at ht
                  obtain ⟨r', hr', he⟩ := Option.map_eq_some_iff.mp ht
                  have s5 := s4.add (q := p) (x := names[j]) hp0
                  rw [putK_new _ hv]
                  have e : (HO.dK (T'.map (fun e => ((Sum.inr e.1 : Key), V.ref e.2.1)) ++ [((Sum.inr names[j] : Key), V.ref p)])) = outO (T' ++ [(names[j], p, [])]) := by
                    unfold outO
                    rw [List.map_append]
                    rfl
                  rw [e]
                  exact go T' [] p [] r' _ _ (fun _ _ z => z) s5 hr' he
                · rw [z3] at hv
                  cases hv
            · cases ht
  · rintro G' σ' H' l' ⟨T', s', hp', k2, k3, k8⟩
    obtain ⟨G2, l2, r2⟩ := s'.rel
    have e : (enS (datS (names.map D.str))).n = names.length := List.length_map ..
    rw [e, List.drop_length] at hp'
    cases hp'
    exact ⟨⟨_, G2, _, r2, l2⟩, hD G' σ' H' T' (hG.trans l') s' rfl k8⟩
def listsD (rows : List (List Str)) : List D := rows.map fun ns => .tup (ns.map D.str)
/-- for at, names in enumerate(lists): .. -/
theorem out_loop {wi wi2 wi3 : TI} {fs fs2 fs3 : Env → Out Src} {rows : List (List Str)} {c : Ctx} {G1 : Hp} {σ : L2.St} {H : Hp} {De : Ends} {d : D} {A : Addr} {T : Tb} {fin : Tab}
    (hi : SemI K mg W wi fs) (hi2 : SemI K mg W wi2 fs2) (hi3 : SemI K mg W wi3 fs3) (hK : c.K = K) (hm : (c.mg, c.xa) = mg) (s : Sec c G1 d A T σ H) (hfs : fs (E0 d) = .val (enS (datS (listsD rows))) (E0 d))
    (hfs2 : ∀ names : List Str, fs2 (E3 d (names.map D.str)) = .val (enS (datS (names.map D.str))) (E3 d (names.map D.str))) (hfs3 : ∀ (names : List Str) (j : Nat), j < names.length → fs3 (E4 d (names.map D.str) j) = .val (datS ((names.drop (j + 1)).map D.str)) (E4 d (names.map D.str) j))
    (h8 : σ.length = 8) (hp : secP 0 rows (erT T) = some fin) (hD : ∀ G' σ' H' T', Gle G1 G' → Sec c G' d A T' σ' H' → erT T' = fin → σ'.length = 8 → De.nx σ' H') :
    tFor wi (gTup K 2 (gCons (gName 2) (gCons (gName 3) gNil))) (tFor wi2 (gTup K 2 (gCons (gName 4) (gCons (gName 5) gNil))) (tSeq (tAsg (tDSetd (tVar 1) (tVar 5) tDNewK) (gName 6)) (tFor wi3 (gName 7) (tDrop (tDSetd (tVar 6) (tVar 7) (tVar 2)))))) De σ H := by
  subst hK
  obtain ⟨G, hG, r⟩ := s.rel
  refine raw_for (c := cF c A T) (s := enS (datS (listsD rows))) hi rfl hm r hfs (fun _ => rfl)
    (fun G' i σ' H' => ∃ T', Sec c G' d A T' σ' H' ∧ secP i (rows.drop i) (erT T') = some fin ∧ σ'.length = 8)
    (fun G' H' r' l' => ⟨T, ⟨⟨G', Gle.refl _, r'⟩, s.dist, s.h0, s.s1⟩, hp, h8⟩) ?_ ?_
  · rintro G' i σ' H' l' hlt ⟨T', s', hp', k8⟩
    have hlt : i < (listsD rows).length := hlt
    unfold listsD at hlt
    rw [List.length_map] at hlt
    obtain ⟨G2, l2, r2⟩ := s'.rel
    refine ⟨_, G2, E0 d, .prs [.int (i : Nat), .tup (rows[i].map D.str)], r2, l2, ?_, fun x G3 H3 r3 l3 hx => ?_⟩
    · show ((listsD rows)[i]?).map _ = _
      unfold listsD
      rw [List.getElem?_map, List.getElem?_eq_getElem hlt]
      rfl
    · cases hx with
      | prs hT ha =>
        cases ha with
        | cons a1 ha =>
          cases ha with
          | @cons v3 _ _ _ a2 ha =>
            cases ha
            cases a1
            rw [List.drop_eq_getElem_cons hlt] at hp'
            obtain ⟨tab2, ht, hp2⟩ := Option.bind_eq_some_iff.mp hp'
            have s3 : Sec c G3 d A T' σ' H3 := ⟨⟨G3, Gle.refl _, r3⟩, s'.dist, s'.h0, s'.s1⟩
            refine ⟨_, _, rfl, r3.sub.sqT hT, rfl, _, _, rfl, _, _, rfl, rfl, ?_⟩
            have s4 := (s3.set (i := 2) (V.int (i : Nat)) (by omega) (by omega)).set (i := 3) v3 (by omega) (by omega)
            refine mid_loop hi2 hi3 rfl hm s4 (hfs2 rows[i]) (hfs3 rows[i]) ?_ (List.getElem?_set_self (by rw [List.length_set]; omega)) a2 (by rw [List.length_set, List.length_set]; exact k8) ht ?_
            · rw [List.getElem?_set_ne (by omega), List.getElem?_set_self (by omega)]
            · intro G7 σ7 H7 T7 l7 s7 he hl7
              exact ⟨T7, s7.le ((l2.trans l3).trans l7), (by rw [he]; exact hp2), hl7⟩
  · rintro G' σ' H' l' ⟨T', s', hp', k8⟩
    obtain ⟨G2, l2, r2⟩ := s'.rel
    have e : (enS (datS (listsD rows))).n = rows.length := by
      show (listsD rows).length = _
      unfold listsD
      exact List.length_map ..
    rw [e, List.drop_length] at hp'
    cases hp'
    exact ⟨⟨_, G2, _, r2, l2⟩, hD G' σ' H' T' (hG.trans l') s' rfl k8⟩
end
/-- the inner dicts are data from now on -/
theorem sec_data {c : Ctx} {d : D} {A : Addr} {σ : L2.St} {H : Hp} (hf : ∀ a, c.fr a = none) : ∀ (S : Tb) (G : Hp), Rel c G (E0 d) σ H → (∀ e ∈ S, H e.2.1 = some (rowO e.2.2) ∧ c.H0 e.2.1 = none ∧ G e.2.1 = none ∧ e.2.1 ≠ A) → (S.map (·.2.1)).Nodup → G A = none →
    ∃ G', Gle G G' ∧ Rel c G' (E0 d) σ H ∧ G' A = none ∧ ∀ e ∈ S, G' e.2.1 = some (rowO e.2.2)
  | [], G, r, _, _, hA => ⟨G, Gle.refl _, r, hA, fun e h => nomatch h⟩
  | e :: S, G, r, h, nd, hA => by
    rw [List.map_cons, List.nodup_cons] at nd
    obtain ⟨h1, h2, h3, h4⟩ := h e (List.mem_cons_self ..)
    have r2 := r.freezeT h1 h2 h3 ⟨fun i u hi => by
      have : ∀ i : Nat, (E0 d)[i]? ≠ some (.own u) := by
        intro i z
        match i with
        | 0 => cases z
        | 1 => cases z
        | 2 => cases z
        | 3 => cases z
        | 4 => cases z
        | 5 => cases z
        | 6 => cases z
        | 7 => cases z
        | (n + 8) => cases z
      exact absurd hi (this i), hf _⟩
    obtain ⟨G', l, r', hA', hS⟩ := sec_data hf S (upd G e.2.1 (rowO e.2.2)) r2 (fun x hx => by
      obtain ⟨k1, k2, k3, k4⟩ := h x (List.mem_cons_of_mem _ hx)
      have ne : x.2.1 ≠ e.2.1 := fun z => nd.1 (by rw [← z]; exact List.mem_map.mpr ⟨x, hx, rfl⟩)
      exact ⟨k1, k2, by rw [upd_ne ne]; exact k3, k4⟩) nd.2 (by rw [upd_ne (Ne.symm h4)]; exact hA)
    refine ⟨G', (Gle.upd h3).trans l, r', hA', fun x hx => ?_⟩
    rcases List.mem_cons.mp hx with rfl | hx
    · exact l _ _ upd_same
    · exact hS x hx
def rowD (row : List (Str × Int)) : D := .dic (row.map fun p => (Sum.inr p.1, D.int p.2))
def tabD (tab : Tab) : D := .dic (tab.map fun e => (Sum.inr e.1, rowD e.2))
theorem rk_row {K : PySem.W.Frag} {G : Hp} : ∀ row : List (Str × Int), RK K G (row.map fun p => (Sum.inr p.1, V.int p.2)) (row.map fun p => (Sum.inr p.1, D.int p.2))
  | [] => .nil
  | p :: r => .cons (.int p.2) (rk_row r)
theorem rk_tab {K : PySem.W.Frag} {G : Hp} : ∀ T : Tb, (∀ e ∈ T, G e.2.1 = some (rowO e.2.2)) → RK K G (T.map fun e => (Sum.inr e.1, V.ref e.2.1)) ((erT T).map fun e => (Sum.inr e.1, rowD e.2))
  | [], _ => .nil
  | e :: T, h => .cons (.dic (.inl (h e (List.mem_cons_self ..))) (rk_row e.2.2)) (rk_tab T fun x hx => h x (List.mem_cons_of_mem _ hx))
def rowsOfD : List D → Option (List (List Str))
  | [] => some []
  | .tup ds :: ls => (strsD ds).bind fun ns => (rowsOfD ls).map fun r => ns :: r
  | _ :: _ => none
theorem rowsOfD_eq : ∀ {ls : List D} {rows : List (List Str)}, rowsOfD ls = some rows → ls = listsD rows
  | [], _, e => by
    cases e
    rfl
  | d :: ls, rows, e => by
    cases d with
    | tup ds =>
      obtain ⟨ns, h1, e⟩ := Option.bind_eq_some_iff.mp e
      obtain ⟨r, h2, rfl⟩ := Option.map_eq_some_iff.mp e
      rw [strsD_eq h1, rowsOfD_eq h2]
      rfl
    | _ => cases e
def F_sec (args : List Slot) : OutF := match args with
  | [.imm (.tup ls)] => match (rowsOfD ls).bind fun rows => secP 0 rows [] with
    | some tab => .ret (.new (tabD tab)) [.imm (.tup ls)]
    | none => .stuck
  | _ => .stuck
theorem F_sec_cases (args : List Slot) : F_sec args = .stuck ∨ ∃ ls rows tab, args = [.imm (.tup ls)] ∧ rowsOfD ls = some rows ∧ secP 0 rows [] = some tab ∧ F_sec args = .ret (.new (tabD tab)) [.imm (.tup ls)] := by
  unfold F_sec
  split
  · rename_i ls
    split
    · rename_i tab h
      obtain ⟨rows, h1, h2⟩ := Option.bind_eq_some_iff.mp h
      exact .inr ⟨ls, rows, tab, rfl, h1, h2, rfl⟩
    · exact .inl rfl
  · exact .inl rfl
theorem sec_fn {K : PySem.W.Frag} {mg : Str → Option Value} {wi wi2 wi3 : TI} {fs fs2 fs3 : Env → Out Src} {vs : List V} {H : Hp} {Q : VK} {E : XK} {N : List Str}
    (hi : SemI K (mg, none) (fun cls d _ H => E cls d H) wi fs) (hi2 : SemI K (mg, none) (fun cls d _ H => E cls d H) wi2 fs2) (hi3 : SemI K (mg, none) (fun cls d _ H => E cls d H) wi3 fs3)
    (hfs : ∀ ds, fs (E0 (.tup ds)) = .val (enS (datS ds)) (E0 (.tup ds))) (hfs2 : ∀ (d : D) (ns : List D), fs2 (E3 d ns) = .val (enS (datS ns)) (E3 d ns)) (hfs3 : ∀ (d : D) (ns : List D) (j : Nat), j < ns.length → fs3 (E4 d ns j) = .val (datS (ns.drop (j + 1))) (E4 d ns j))
    (hN : N.length = 8) (h : spD K mg 1 F_sec vs H Q E) :
    tSeq (tAsg tDNewK (gName 1)) (tSeq (tFor wi (gTup K 2 (gCons (gName 2) (gCons (gName 3) gNil))) (tFor wi2 (gTup K 2 (gCons (gName 4) (gCons (gName 5) gNil))) (tSeq (tAsg (tDSetd (tVar 1) (tVar 5) tDNewK) (gName 6)) (tFor wi3 (gName 7) (tDrop (tDSetd (tVar 6) (tVar 7) (tVar 2)))))))
      (tRet (tVar 1))) { nx := fun _ H' => Q .non H', rt := Q } (L2.start N vs) H := by
  obtain ⟨hl, G, args, hsub, ha, hq⟩ := h
  rcases F_sec_cases args with hz | ⟨ls, rows, tab, rfl, hrows, htab, hz⟩
  · rw [hz] at hq
    exact hq.elim
  · rw [hz] at hq
    have hls := rowsOfD_eq hrows
    have r := entry_rel (mg := mg) (N := N) hsub ha (by rw [hN]; exact (by decide : 1 ≤ 8))
    have eE : ([Slot.imm (.tup ls)] ++ List.replicate (N.length - [Slot.imm (.tup ls)].length) .no : Env) = E0 (.tup ls) := by
      rw [hN]
      rfl
    rw [eE] at r
    generalize hc : fctx K mg G H vs [.imm (.tup ls)] = c at r
    have hcfr : ∀ a, c.fr a = none := by
      subst hc
      exact fun _ => rfl
    have hcK : c.K = K := by
      subst hc
      rfl
    have hcm : (c.mg, c.xa) = (mg, none) := by
      subst hc
      rfl
    have hcH : c.H0 = H := by
      subst hc
      rfl
    have hlen : (L2.start N vs).length = 8 := by
      rw [← r.len]
      rfl
    intro p hp
    have hp0 : c.H0 p = none := by
      rw [hcH]
      exact hp
    have r1 : Rel (cF c p []) G (E0 (.tup ls)) (L2.start N vs) (upd H p (.dK [])) := by
      refine r.reframe (fun a o e => ?_) (fun a o e => ?_) (fun a _ h2 => ?_) (fun a h2 => ?_)
      · rw [hcfr] at e
        cases e
      · rcases frT_some e with ⟨rfl, rfl⟩ | ⟨e, he, _⟩
        · exact ⟨.inr hp, upd_same⟩
        · cases he
      · exact upd_ne fun z => h2 (by rw [z]; exact hp)
      · by_cases z : a = p
        · rw [z, upd_same]
          exact fun w => nomatch w
        · rw [upd_ne z]
          exact h2
    have r2 := r1.store (i := 1) (v := .ref p) (s := .no) rfl trivial (fun _ _ z => nomatch z) (fun _ => ⟨(fun z => nomatch z), (fun z => nomatch z)⟩)
    have s0 : Sec c G (.tup ls) p [] ((L2.start N vs).set 1 (some (.ref p))) (upd H p (.dK [])) :=
      ⟨⟨G, Gle.refl _, r2⟩, ⟨(fun e h => nomatch h), .nil⟩, ⟨hp0, fun e h => nomatch h⟩, List.getElem?_set_self (by omega)⟩
    refine out_loop (rows := rows) hi hi2 hi3 hcK hcm s0 (by rw [hls]; exact hfs _) (fun names => hfs2 _ _) (fun names j hj => ?_) (by rw [List.length_set]; exact hlen) htab ?_
    · rw [hfs3 _ _ j (by rw [List.length_map]; exact hj), List.map_drop]
    · intro G' σ' H' T l s he h8
      obtain ⟨G2, l2, rr⟩ := s.rel
      have r3 : Rel c G2 (E0 (.tup ls)) σ' H' := by
        have := rr.reframe (f' := c.fr) (H' := H') (fun a o e => frT_h0 s a o e) (fun a o e => by rw [hcfr] at e; cases e) (fun a _ _ => rfl) (fun a h => h)
        exact this
      obtain ⟨G3, l3, r4, hA, hT⟩ := sec_data hcfr T G2 r3 (fun e he => ⟨s.at he, s.h0.2 e he, (rr.frs _ _ (frT_at s.dist e he)).2.1, s.dist.1 e he⟩) s.dist.2 (rr.frs _ _ (frT_self p T)).2.1
      refine ⟨.ref p, s.s1, ?_⟩
      subst hc
      have fp := exit_post (e := E0 (.tup ls)) ha.len r4 ((l.trans l2).trans l3)
      refine hq _ G3 H' fp ⟨p, rfl, hp, hA, _, s.atA, ?_⟩
      rw [← he]
      exact rk_tab T hT
theorem cut_drop (ns : List D) (j : Nat) (hj : j < ns.length) : cutD ns (some ((j : Int) + 1)) none = ns.drop (j + 1) := by
  have e : ((j : Int) + 1) = ((j + 1 : Nat) : Int) := by omega
  unfold cutD
  rw [e, HT.sIx_nat]
  show (ns.drop (min (j + 1) ns.length)).take (ns.length - min (j + 1) ns.length) = _
  rw [Nat.min_eq_left (by omega)]
  exact List.take_of_length_le (by rw [List.length_drop]; exact Nat.le_refl _)
theorem sec_slice (d : D) (ns : List D) (j : Nat) (hj : j < ns.length) : srcV (settled (eSl (eVar 3) (oPart (eOp gAddU (eVar 4) (eC (.int 1)))) oNone)) (E4 d ns j) = .val (datS (ns.drop (j + 1))) (E4 d ns j) := by
  rw [← cut_drop ns j hj]
  rfl
end DL

/-! DLL: a, b = e1, e2 where new objects stay the slots' own -/
namespace DL
open PySem L2 PySem.Spec PyProof.Rows
section
variable {c : Ctx} {G H : Hp} {env : Env} {σ : L2.St}
theorem Rel.extHas (r : Rel c G env σ H) {p : Addr} {d : D} (h0 : c.H0 p = none) (hg : G p = none) (ro : RO c.K G H p d) (ap : Apart c env σ p) : ∃ o, H p = some o ∧ Rel (c.ext p o) G env σ H := by
  obtain ⟨o, ho, _, _⟩ := ro.has
  refine ⟨o, ho, r.sub, r.g0, r.gfix, r.keep, r.lks, r.pah, r.pinj, r.len, r.slot, r.dist, fun a u e => ?_, r.pars⟩
  have e : (if a = p then some o else c.fr a) = some u := e
  by_cases z : a = p
  · subst z
    rw [if_pos rfl] at e
    cases e
    refine ⟨ho, hg, fun i d hi hs => ?_⟩
    rcases hi with hi | hi
    · exact ap.1 i d hi hs
    · obtain ⟨q, e1, e2, _⟩ := r.slot i _ hi
      rw [hs] at e1
      cases e1
      exact r.nopa h0 i e2
  · rw [if_neg z] at e
    exact r.frs a u e
end
/-- a and b are new, or data -/
def sPar2 (i j : Nat) (fa fb : Env → Out EV) : Env → OutS := fun env => (fa env).toS fun a e1 => match a with
  | .new d => (match fb e1 with
    | .val (.new d2) e2 => OutS.of ((put e2 i (.own d)).bind fun e3 => put e3 j (.own d2))
    | .val (.dat d2) e2 => OutS.of ((put e2 i (.own d)).bind fun e3 => put e3 j (.imm d2))
    | _ => .stuck)
  | .dat d => (fb e1).toS fun b e2 => (match b with
    | .new d2 => OutS.of ((put e2 i (.imm d)).bind fun e3 => put e3 j (.own d2))
    | .dat d2 => OutS.of ((put e2 i (.imm d)).bind fun e3 => put e3 j (.imm d2))
    | .slot _ => .stuck)
  | .slot _ => .stuck
section
variable {K : PySem.W.Frag} {mg : MX} {W : WX}
theorem Rel.putO {c : Ctx} {G H : Hp} {env env' : Env} {σ : L2.St} (r : Rel c G env σ H) {i : Nat} {p : Addr} {d : D} (h0 : c.H0 p = none) (hg : G p = none) (ro : RO c.K G H p d) (ap : Apart c env σ p) (e : DL.put env i (.own d) = some env') : Rel c G env' (σ.set i (some (.ref p))) H := by
  unfold DL.put at e
  split at e
  · rename_i hs
    cases e
    exact r.store hs ⟨p, rfl, h0, hg, ro⟩ (fun _ q _ z => by cases z; exact ap) (fun _ => ⟨(fun z => by cases z), (fun z => by cases z)⟩)
  · cases e
theorem Apart.put {c : Ctx} {env env' : Env} {σ : L2.St} {q : Addr} (ap : Apart c env σ q) {i : Nat} {s : Slot} {v : V} (e : DL.put env i s = some env') (hv : ∀ d, s = .own d → v ≠ .ref q) : Apart c env' (σ.set i (some v)) q := by
  unfold DL.put at e
  split at e
  · cases e
    refine ⟨fun k d hk hs => ?_, ap.2⟩
    rcases getElem?_set_cases hk with ⟨rfl, z⟩ | ⟨hne, hk'⟩
    · by_cases hl : i < σ.length
      · rw [List.getElem?_set_self hl] at hs
        cases hs
        exact hv d z.symm rfl
      · rw [List.getElem?_eq_none (by rw [List.length_set]; omega)] at hs
        cases hs
    · rw [List.getElem?_set_ne hne] at hs
      exact ap.1 k d hk' hs
  · cases e
theorem sem_par2 {i j : Nat} {ta tb : TE} {fa fb : Env → Out EV} (ha : SemE K mg W ta fa) (hb : SemE K mg W tb fb) : SemS K mg W (tPar i j (tCons ta (tCons tb tNil))) (sPar2 i j fa fb) := by
  intro c G env σ H D hK hm r h
  refine ha c G env σ H hK hm r _ (post_toS h fun a e1 v G1 H1 r1 l1 p1 q1 => ?_)
  cases a with
  | slot k => exact q1.elim
  | dat d =>
    have q1 : PostS c G1 W D ((fb e1).toS fun b e2 => (match b with
      | .new d2 => OutS.of ((put e2 i (.imm d)).bind fun e3 => put e3 j (.own d2))
      | .dat d2 => OutS.of ((put e2 i (.imm d)).bind fun e3 => put e3 j (.imm d2))
      | .slot _ => .stuck)) := q1
    refine hb c G1 e1 σ H1 hK hm r1 _ (post_toS q1 fun b e2 u G2 H2 r2 l2 p2 q2 => ?_)
    refine ⟨v, u, rfl, ?_⟩
    have p1 : R c.K G1 v d := p1
    cases b with
    | slot k => exact q2.elim
    | dat d2 =>
      have q2 : PostS c G2 W D (OutS.of ((put e2 i (.imm d)).bind fun e3 => put e3 j (.imm d2))) := q2
      cases h1 : DL.put e2 i (.imm d) with
      | none =>
        rw [h1] at q2
        exact q2.elim
      | some e3 =>
        rw [h1] at q2
        have q2 : PostS c G2 W D (OutS.of (DL.put e3 j (.imm d2))) := q2
        cases h2 : DL.put e3 j (.imm d2) with
        | none =>
          rw [h2] at q2
          exact q2.elim
        | some e4 =>
          rw [h2] at q2
          exact q2 _ G2 H2 ((r2.put (p1.mono l2.sub) h1).put p2 h2) (Gle.refl _)
    | new d2 =>
      have q2 : PostS c G2 W D (OutS.of ((put e2 i (.imm d)).bind fun e3 => put e3 j (.own d2))) := q2
      obtain ⟨p, rfl, h0, hg, ro, ap⟩ := p2
      cases h1 : DL.put e2 i (.imm d) with
      | none =>
        rw [h1] at q2
        exact q2.elim
      | some e3 =>
        rw [h1] at q2
        have q2 : PostS c G2 W D (OutS.of (DL.put e3 j (.own d2))) := q2
        cases h2 : DL.put e3 j (.own d2) with
        | none =>
          rw [h2] at q2
          exact q2.elim
        | some e4 =>
          rw [h2] at q2
          exact q2 _ G2 H2 ((r2.put (p1.mono l2.sub) h1).putO h0 hg ro (ap.put h1 fun _ z => by cases z) h2) (Gle.refl _)
  | new d =>
    obtain ⟨p, rfl, h0, hg, ro, ap⟩ := p1
    obtain ⟨o, ho, rx⟩ := r1.extHas h0 hg ro ap
    have hfr : c.fr p = none := ap.2
    have back : ∀ {e2 : Env} {G2 H2 : Hp}, Rel (c.ext p o) G2 e2 σ H2 → Gle G1 G2 → Rel c G2 e2 σ H2 ∧ G2 p = none ∧ RO c.K G2 H2 p d ∧ Apart c e2 σ p := by
      intro e2 G2 H2 r2 l2
      obtain ⟨hq, hg2, hs⟩ := r2.frs p o (if_pos rfl)
      exact ⟨r2.unext hfr, hg2, (ro.mono l2).at (hq.trans ho.symm), fun k e hk => hs k e (.inl hk), hfr⟩
    have q1 : PostS c G1 W D (match fb e1 with
      | .val (.new d2) e2 => OutS.of ((put e2 i (.own d)).bind fun e3 => put e3 j (.own d2))
      | .val (.dat d2) e2 => OutS.of ((put e2 i (.own d)).bind fun e3 => put e3 j (.imm d2))
      | _ => .stuck) := q1
    refine hb (c.ext p o) G1 e1 σ H1 hK hm rx _ ?_
    cases hf : fb e1 with
    | stuck =>
      rw [hf] at q1
      exact q1.elim
    | exc x fs e2 =>
      rw [hf] at q1
      exact q1.elim
    | val b e2 =>
      rw [hf] at q1
      intro u G2 H2 r2 l2 p2
      obtain ⟨r2', hg2, ro2, ap2⟩ := back r2 l2
      refine ⟨.ref p, u, rfl, ?_⟩
      cases b with
      | slot k => exact q1.elim
      | dat d2 =>
        have q1 : PostS c G1 W D (OutS.of ((put e2 i (.own d)).bind fun e3 => put e3 j (.imm d2))) := q1
        have p2 : R c.K G2 u d2 := p2
        cases h1 : DL.put e2 i (.own d) with
        | none =>
          rw [h1] at q1
          exact q1.elim
        | some e3 =>
          rw [h1] at q1
          have q1 : PostS c G1 W D (OutS.of (DL.put e3 j (.imm d2))) := q1
          cases h2 : DL.put e3 j (.imm d2) with
          | none =>
            rw [h2] at q1
            exact q1.elim
          | some e4 =>
            rw [h2] at q1
            exact q1 _ G2 H2 ((r2'.putO h0 hg2 ro2 ap2 h1).put p2 h2) l2
      | new d2 =>
        have q1 : PostS c G1 W D (OutS.of ((put e2 i (.own d)).bind fun e3 => put e3 j (.own d2))) := q1
        obtain ⟨p', rfl, h0', hg', ro', ap'⟩ := p2
        have ne : p' ≠ p := fun z => by
          have := ap'.2
          rw [z] at this
          have : (if p = p then some o else c.fr p) = none := this
          rw [if_pos rfl] at this
          cases this
        have apc : Apart c e2 σ p' := ⟨ap'.1, by
          have := ap'.2
          have : (if p' = p then some o else c.fr p') = none := this
          rw [if_neg ne] at this
          exact this⟩
        cases h1 : DL.put e2 i (.own d) with
        | none =>
          rw [h1] at q1
          exact q1.elim
        | some e3 =>
          rw [h1] at q1
          have q1 : PostS c G1 W D (OutS.of (DL.put e3 j (.own d2))) := q1
          cases h2 : DL.put e3 j (.own d2) with
          | none =>
            rw [h2] at q1
            exact q1.elim
          | some e4 =>
            rw [h2] at q1
            exact q1 _ G2 H2 ((r2'.putO h0 hg2 ro2 ap2 h1).putO h0' hg' ro' (apc.put h1 fun _ _ z => ne (V.ref.inj z).symm) h2) l2
end
end DL

/-! DLM: for .. else -/
namespace DL
open PySem L2 PySem.Spec PyProof.Rows
def loopE (s : Src) (g : EV → Env → OutS) (F U : Env → OutS) : Nat → Env → OutS
  | 0, env => if s.ok env then U env else .stuck
  | r + 1, env => match s.it env (s.n - (r + 1)) with
    | none => .stuck
    | some d => match (g (.dat d) env).bind F with
      | .next e => loopE s g F U r e
      | .cnt e => loopE s g F U r e
      | .brk e => .next e
      | o => o
section
variable {K : PySem.W.Frag} {mg : MX} {W : WX}
def sForE (fs : Env → Out Src) (g : EV → Env → OutS) (F U : Env → OutS) : Env → OutS := fun env => (fs env).toS fun s e => loopE s g F U s.n e
theorem sem_forE {wi : TI} {g : TG} {tb u : TS} {fs : Env → Out Src} {f : EV → Env → OutS} {F U : Env → OutS} (hi : SemI K mg W wi fs) (hg : SemG K mg W g f) (hx : ∀ ev env, (∃ e, f ev env = .next e) ∨ f ev env = .stuck) (hb : SemS K mg W tb F) (hu : SemS K mg W u U) :
    SemS K mg W (tForE wi g tb u) (sForE fs f F U) := by
  intro c G env σ H D hK hm r h
  refine hi c G env σ H hK hm r _ (post_toS h fun s e1 J G1 H1 r1 l1 p1 q1 => ?_)
  have T : Turns c G1 J s := p1 c.fr c.lk
  refine ⟨fun i m σ' H' => m = s.n - i ∧ i ≤ s.n ∧ ∃ G' env', Rel c G' env' σ' H' ∧ Gle G1 G' ∧ PostS c G' W D (loopE s f F U m env'), ⟨s.n, by simp, Nat.zero_le _, G1, e1, r1, Gle.refl _, q1⟩, ?_⟩
  rintro i m σ' H' ⟨rfl, hi2, G2, e2, r2, l2, q2⟩
  cases hm2 : s.n - i with
  | zero =>
    have e0 : i = s.n := by omega
    subst e0
    rw [hm2] at q2
    have q2 : PostS c G2 W D (if s.ok e2 = true then U e2 else .stuck) := q2
    by_cases hok : s.ok e2 = true
    · rw [if_pos hok] at q2
      exact .inl ⟨T.stop G2 e2 σ' H' r2 l2 hok, hu c G2 e2 σ' H' D hK hm r2 q2⟩
    · rw [if_neg hok] at q2
      exact q2.elim
  | succ k =>
    have e0 : s.n - (k + 1) = i := by omega
    have hlt : i < s.n := by omega
    rw [hm2] at q2
    have q2 : PostS c G2 W D (match s.it e2 (s.n - (k + 1)) with
      | none => .stuck
      | some d => match (f (.dat d) e2).bind F with
        | .next e => loopE s f F U k e
        | .cnt e => loopE s f F U k e
        | .brk e => .next e
        | o => o) := q2
    rw [e0] at q2
    cases hd : s.it e2 i with
    | none =>
      rw [hd] at q2
      exact q2.elim
    | some d =>
      rw [hd] at q2
      obtain ⟨hgo, hy⟩ := T.go i G2 e2 σ' H' d r2 l2 hlt hd
      refine .inr ⟨hgo, fun σ3 H3 => ∃ G' env', Rel c G' env' σ3 H3 ∧ Gle G1 G' ∧ PostS c G' W D (loopE s f F U k env'), fun σ3 H3 w => ⟨k, by omega, by omega, by omega, w⟩, fun x H3 y => ?_⟩
      obtain ⟨G3, r3, l3, p3⟩ := hy x H3 y
      refine hg c G3 e2 σ' H3 x (.dat d) _ hK hm r3 p3 ?_
      have q2 : PostS c G2 W D (match (f (.dat d) e2).bind F with
        | .next e => loopE s f F U k e
        | .cnt e => loopE s f F U k e
        | .brk e => .next e
        | o => o) := q2
      rcases hx (.dat d) e2 with ⟨e4, z⟩ | z
      · rw [z] at q2 ⊢
        intro σ4 G4 H4 r4 l4
        refine hb c G4 e4 σ4 H4 _ hK hm r4 ?_
        have q2 : PostS c G2 W D (match F e4 with
          | .next e => loopE s f F U k e
          | .cnt e => loopE s f F U k e
          | .brk e => .next e
          | o => o) := q2
        have L4 : Gle G2 G4 := l3.trans l4
        cases he : F e4 with
        | next e =>
          rw [he] at q2
          exact fun σ5 G5 H5 r5 l5 => ⟨G5, e, r5, ((l2.trans L4).trans l5), q2.imp (L4.trans l5) (fun _ _ z => z) (fun _ _ z => z) (fun _ _ z => z) fun _ _ z => z⟩
        | cnt e =>
          rw [he] at q2
          exact fun σ5 G5 H5 r5 l5 => ⟨G5, e, r5, ((l2.trans L4).trans l5), q2.imp (L4.trans l5) (fun _ _ z => z) (fun _ _ z => z) (fun _ _ z => z) fun _ _ z => z⟩
        | brk e =>
          rw [he] at q2
          exact fun σ5 G5 H5 r5 l5 => q2 σ5 G5 H5 r5 (L4.trans l5)
        | ret v e =>
          rw [he] at q2
          exact fun v σ5 G5 H5 r5 l5 p5 => q2 v σ5 G5 H5 r5 (L4.trans l5) p5
        | exc x fs e =>
          rw [he] at q2
          exact fun cls d σ5 G5 H5 r5 l5 p5 => q2 cls d σ5 G5 H5 r5 (L4.trans l5) p5
        | stuck =>
          rw [he] at q2
          exact q2
      · rw [z] at q2
        exact q2.elim
theorem sem_forEN {wi : TI} {i : Nat} {tb u : TS} {fs : Env → Out Src} {F U : Env → OutS} (hi : SemI K mg W wi fs) (hb : SemS K mg W tb F) (hu : SemS K mg W u U) : SemS K mg W (tForE wi (gName i) tb u) (sForE fs (gN i) F U) := sem_forE hi sem_gName (gN_ok i) hb hu
/-- its ends, by what holds between two turns -/
theorem loopE_inv {s : Src} {g : EV → Env → OutS} {F U : Env → OutS} {I : Nat → Env → Prop} {B : Env → Prop} {R : EV → Env → Prop} (hok : ∀ env, I s.n env → s.ok env = true)
    (step : ∀ i env, i < s.n → I i env → ∃ d, s.it env i = some d ∧ ((∃ env', (g (.dat d) env).bind F = .next env' ∧ I (i + 1) env') ∨ (∃ env', (g (.dat d) env).bind F = .brk env' ∧ B env') ∨ (∃ v env', (g (.dat d) env).bind F = .ret v env' ∧ R v env'))) :
    ∀ (r : Nat) (env : Env), r ≤ s.n → I (s.n - r) env → (∃ env', loopE s g F U r env = U env' ∧ I s.n env') ∨ (∃ env', loopE s g F U r env = .next env' ∧ B env') ∨ (∃ v env', loopE s g F U r env = .ret v env' ∧ R v env') := by
  intro r
  induction r with
  | zero =>
    intro env _ h
    refine .inl ⟨env, ?_, by simpa using h⟩
    rw [loopE, if_pos (hok env (by simpa using h))]
  | succ r ih =>
    intro env hr h
    obtain ⟨d, h1, ⟨env', h2, h4⟩ | ⟨env', h2, h4⟩ | ⟨v, env', h2, h4⟩⟩ := step _ env (by omega) h
    · rw [loopE, h1]
      simp only [h2]
      exact ih _ (by omega) (by rw [show s.n - r = s.n - (r + 1) + 1 by omega]; exact h4)
    · rw [loopE, h1]
      simp only [h2]
      exact .inr (.inl ⟨env', rfl, h4⟩)
    · rw [loopE, h1]
      simp only [h2]
      exact .inr (.inr ⟨v, env', rfl, h4⟩)
theorem sForE_inv {s : Src} {g : EV → Env → OutS} {F U : Env → OutS} {fs : Env → Out Src} {I : Nat → Env → Prop} {B : Env → Prop} {R : EV → Env → Prop} {env e0 : Env} (hs : fs env = .val s e0) (h0 : I 0 e0) (hok : ∀ env, I s.n env → s.ok env = true)
    (step : ∀ i env, i < s.n → I i env → ∃ d, s.it env i = some d ∧ ((∃ env', (g (.dat d) env).bind F = .next env' ∧ I (i + 1) env') ∨ (∃ env', (g (.dat d) env).bind F = .brk env' ∧ B env') ∨ (∃ v env', (g (.dat d) env).bind F = .ret v env' ∧ R v env'))) :
    (∃ env', sForE fs g F U env = U env' ∧ I s.n env') ∨ (∃ env', sForE fs g F U env = .next env' ∧ B env') ∨ (∃ v env', sForE fs g F U env = .ret v env' ∧ R v env') := by
  have := loopE_inv (U := U) hok step s.n e0 (Nat.le_refl _) (by rw [Nat.sub_self]; exact h0)
  unfold sForE
  rw [hs]
  exact this
end
end DL

/-! DN1: texts: methods without arguments, split, x or y, signs; data of any depth in a list -/
namespace DL
open PySem L2 PySem.Spec PyProof.Rows
section
variable {K : PySem.W.Frag} {mg : MX} {W : WX}
/-! s.isalpha() and its like -/
def rM0 (f : Str → V) : V → List V → Hp → VK → Prop := fun x xs H Q => ∃ a, x = .str a ∧ xs = [] ∧ True ∧ Q (f a) H
def eM0 (f : Str → D) (fo : Env → Out EV) : Env → Out EV := fun env => (fo env).bind fun o e1 => Out.of (((cont e1 o).bind strD).map fun a => .dat (f a)) e1
theorem sem_m0 {f : Str → Bool} {to : TE} {fo : Env → Out EV} (ho : SemD K mg W to fo) : SemE K mg W (tM0 (fun x xs H Q => ∃ a, x = .str a ∧ xs = [] ∧ True ∧ Q (.bl (f a)) H) to) (eM0 (fun a => .bl (f a)) fo) := by
  intro c G env σ H hK hm r0 Q hQ
  refine ho c G env σ H hK hm r0 _ (post_bind hQ fun o e1 v G1 H1 r1 l1 p1 q1 => ?_)
  obtain ⟨ev, he, q⟩ := post_of q1
  obtain ⟨a, h1, rfl⟩ := Option.map_eq_some_iff.mp he
  obtain ⟨d, hd, hs⟩ := Option.bind_eq_some_iff.mp h1
  have hv := (r1.read (RD.rv p1) hd).str hs
  exact ⟨⟨a, hv⟩, a, hv, rfl, trivial, q _ G1 H1 r1 (Gle.refl _) (.bl _)⟩
/-! s.split(sep) -/
def rSplit : V → List V → Hp → VK → Prop := fun x xs H Q => ∃ a b, x = .str a ∧ xs = [.str b] ∧ (b.length == 0) = false ∧ a.length + 2 ≤ sizeLine ∧ rNewStrs (Txt.split a b) H Q
def gSplit (x y : D) : Option EV := (strD x).bind fun a => (strD y).bind fun b => if (b.length == 0) = false ∧ a.length + 2 ≤ sizeLine then some (.new (.lst ((Txt.split a b).map .str))) else none
theorem ms_split : MtS1 K rSplit gSplit := by
  intro c G env σ H x y dx dy ev hK r hx hy he Q hQ
  obtain ⟨a, h1, he⟩ := Option.bind_eq_some_iff.mp he
  obtain ⟨b, h2, he⟩ := Option.bind_eq_some_iff.mp he
  split at he
  · rename_i hc
    cases he
    refine ⟨a, b, hx.str h1, by rw [hy.str h2], hc.1, hc.2, fun p hp => ?_⟩
    exact hQ _ G _ (r.newT hp) (Gle.refl G) (r.newlst (RA.of_strs _) hp)
  · cases he
/-! x or y, by truth -/
def eOrT (fa fb : Env → Out EV) : Env → Out EV := fun env => (fa env).bind fun a e1 => (Out.of ((cont e1 a).bind truD) e1).bind fun b e2 => if b then .val a e2 else fb e2
theorem sem_orT {ta tb : TE} {fa fb : Env → Out EV} (ha : SemE K mg W ta fa) (hb : SemE K mg W tb fb) : SemE K mg W (tOrT K ta tb) (eOrT fa fb) := by
  intro c G env σ H hK hm r0 Q hQ
  refine ha c G env σ H hK hm r0 _ (post_bind hQ fun a e1 v G1 H1 r1 l1 p1 q1 => ?_)
  have p1 : RV c G1 e1 σ H1 v a := p1
  cases hc : (cont e1 a).bind truD with
  | none =>
    rw [hc] at q1
    exact q1.elim
  | some b =>
    rw [hc] at q1
    obtain ⟨d, h1, he⟩ := Option.bind_eq_some_iff.mp hc
    have hs := r1.read p1 h1
    rw [hK] at hs
    refine ⟨b, truD_ok r1.sub hs he, ?_⟩
    cases b with
    | true => exact q1 v G1 H1 r1 (Gle.refl _) p1
    | false => exact hb c G1 e1 σ H1 hK hm r1 Q q1
/-! x > y: ints, texts -/
def rGtU : R2 := fun x y H Q => rI0 (fun i j => .bl (decide (j < i))) x y H Q ∨ ∃ i j, x = .str i ∧ y = .str j ∧ Q (.bl (decide (j.cps.toList < i.cps.toList))) H
theorem op_gtU {X : Cx} : OpR X (compareOp .Gt) rGtU := by
  intro pins s σ H x y v u Q I rx ry h
  rcases h with h | h
  · exact op_gt pins s σ H x y v u Q I rx ry h
  · exact op_gt_str pins s σ H x y v u Q I rx ry h
def gGtU : D → D → Option EV
  | .int i, .int j => some (.dat (.bl (decide (j < i))))
  | .str i, .str j => some (.dat (.bl (ltS j i)))
  | _, _ => none
theorem os_gtU : OpSem K rGtU gGtU := by
  intro c G env σ H x y dx dy ev hK r hx hy he Q hQ
  unfold gGtU at he
  split at he
  · cases he
    exact .inl ⟨_, _, hx.i, hy.i, hQ _ G H r (Gle.refl G) (.bl _)⟩
  · cases he
    exact .inr ⟨_, _, hx.s, hy.s, hQ _ G H r (Gle.refl G) (.bl _)⟩
  · cases he
/-! x in y: a sign in a text, flat things in a list or tuple, data of any depth in a list -/
def rInU (K : PySem.W.Frag) : R2 := fun x y H Q => rIn K false x y H Q ∨ (∃ (c : Nat) (z : Str), x = .str ⟨#[c]⟩ ∧ y = .str z ∧ Q (.bl (decide (c ∈ z.cps.toList))) H) ∨ rInD K x y H Q
theorem op_inU {X : Cx} (hu : X.A.units + 65 < cLine) : OpR X (compareOp .In) (rInU X.K) := by
  intro pins s σ H x y v u Q I rx ry h
  rcases h with h | h | h
  · exact op_in_seq pins s σ H x y v u Q I rx ry h
  · exact op_in_sign pins s σ H x y v u Q I rx ry h
  · exact op_inD hu pins s σ H x y v u Q I rx ry h
theorem room65 {k : Nat} {A : Around} (r : Room k A) : A.units + 65 < cLine := by have := r.un; omega
def inDD (a : D) (ds : List D) : Option Bool := (toPy a).bind fun x => (toPys ds).bind fun ys => if SeqAt.shaped x && SeqAt.shaped (.list ys) then some (ys.any fun z => PyData.eqv z x) else none
def gInU (a b : D) : Option EV := match gIn false a b with
  | some ev => some ev
  | none => match a, b with
    | .str x, .str z => if x.cps.size = 1 then (x.cps[0]?).map fun c => .dat (.bl (decide (c ∈ z.cps.toList))) else none
    | a, .lst ds => (inDD a ds).map fun b => .dat (.bl b)
    | _, _ => none
theorem str_one {x : Str} {c : Nat} (h : x.cps.size = 1) (e : x.cps[0]? = some c) : x = ⟨#[c]⟩ := by
  cases x with
  | mk cps =>
    congr 1
    apply Array.ext
    · simpa using h
    · intro i h1 h2
      have : i = 0 := by simp at h2; omega
      subst this
      have h3 : 0 < cps.size := h1
      have e : cps[0]? = some c := e
      rw [Array.getElem?_eq_getElem h3] at e
      simpa using Option.some.inj e
theorem os_inU : OpSem K (rInU K) gInU := by
  intro c G env σ H x y dx dy ev hK r hx hy he Q hQ
  unfold gInU at he
  cases h0 : gIn false dx dy with
  | some e0 =>
    rw [h0] at he
    cases he
    exact .inl (os_in c G env σ H x y dx dy ev hK r hx hy h0 Q hQ)
  | none =>
    rw [h0] at he
    simp only at he
    split at he
    · split at he
      · rename_i hs
        obtain ⟨k, hk, rfl⟩ := Option.map_eq_some_iff.mp he
        exact .inr (.inl ⟨k, _, by rw [hx.s, str_one hs hk], hy.s, hQ _ G H r (Gle.refl G) (.bl _)⟩)
      · cases he
    · rename_i ds
      obtain ⟨b, hb, rfl⟩ := Option.map_eq_some_iff.mp he
      obtain ⟨p, hp, hb⟩ := Option.bind_eq_some_iff.mp hb
      obtain ⟨ps, hps, hb⟩ := Option.bind_eq_some_iff.mp hb
      split at hb
      · rename_i hsh
        cases hb
        rw [Bool.and_eq_true] at hsh
        have hx' := toPy_dp (hx.r r.sub) hp
        have hy' := toPy_dp (p := .list ps) (hy.r r.sub) (by
          show (toPys ds).map PyData.list = _
          rw [hps]
          rfl)
        subst hK
        exact .inr (.inr ⟨p, ps, hx', hy', hsh.1, hsh.2, hQ _ G H r (Gle.refl G) (.bl _)⟩)
      · cases hb
    · cases he
/-! l.index(x), data of any depth -/
def idxDD (ds : List D) (a : D) : Option Nat := (toPy a).bind fun x => (toPys ds).bind fun ys => if SeqAt.shaped x && SeqAt.shaped (.list ys) then ys.findIdx? (fun z => PyData.eqv z x) else none
def gIdx : D → List D → Option EV
  | .lst ds, [x] => (idxDD ds x).map fun j => .dat (.int (j : Nat))
  | _, _ => none
def isLst : D → Option Unit
  | .lst _ => some ()
  | _ => none
def MtLR (K : PySem.W.Frag) (r : V → List V → Hp → VK → Prop) (g : D → List D → Option EV) : Prop := ∀ c G env σ H v xs dx ds ev, c.K = K → Rel c G env σ H → S c.K G H v dx → Paired (S c.K G H) xs ds → g dx ds = some ev →
  ∀ Q : VK, (∀ v G' H', Rel c G' env σ H' → Gle G G' → RV c G' env σ H' v ev → Q v H') → r v xs H Q
def eBmR (g : D → List D → Option EV) (fo : Env → Out EV) (fa : Env → Out (List EV)) : Env → Out EV := fun env => (fo env).bind fun o e1 => (Out.of ((cont e1 o).bind isLst) e1).bind fun _ e1 => (fa e1).bind fun as e2 =>
  Out.of ((cont e2 o).bind fun d => (conts e2 as).bind fun ds => g d ds) e2
theorem sem_bmR {r : V → List V → Hp → VK → Prop} {g : D → List D → Option EV} {to : TE} {ta : TA} {fo : Env → Out EV} {fa : Env → Out (List EV)} (hr : MtLR K r g) (ho : SemD K mg W to fo) (ha : SemA K mg W ta fa) : SemE K mg W (tBM K "list" r to ta) (eBmR g fo fa) := by
  intro c G env σ H hK hm r0 Q hQ
  refine ho c G env σ H hK hm r0 _ (post_bind hQ fun o e1 v G1 H1 r1 l1 p1 q1 => ?_)
  cases hi : (cont e1 o).bind isLst with
  | none =>
    rw [hi] at q1
    exact q1.elim
  | some u =>
    rw [hi] at q1
    obtain ⟨d, hd, hu⟩ := Option.bind_eq_some_iff.mp hi
    cases d with
    | lst es =>
      have hs := r1.read (RD.rv p1) hd
      obtain ⟨a, xs, e, h1, h2⟩ := hs.l r1.sub
      refine ⟨?_, ?_⟩
      · subst e
        rw [hK] at *
        exact .inl ⟨rfl, xs, SqL.of h1⟩
      · refine ha c G1 e1 σ H1 hK hm r1 _ (post_bind q1 fun as e2 vs G2 H2 r2 l2 p2 q2 => ?_)
        obtain ⟨ev, he, q⟩ := post_of q2
        obtain ⟨dx, h3, he⟩ := Option.bind_eq_some_iff.mp he
        obtain ⟨ds, h4, he⟩ := Option.bind_eq_some_iff.mp he
        exact hr c G2 e2 σ H2 v vs dx ds ev hK r2 (r2.read (RD.rv (p1.mono l2)) h3) (r2.reads p2 h4) he Q q
    | _ => cases hu
theorem mtr_index : MtLR K (rIndexD K) gIdx := by
  intro c G env σ H v xs dx ds ev hK r hv hx he Q hQ
  subst hK
  unfold gIdx at he
  split at he
  · rename_i es x
    obtain ⟨j, hj, rfl⟩ := Option.map_eq_some_iff.mp he
    obtain ⟨p, hp, hj⟩ := Option.bind_eq_some_iff.mp hj
    obtain ⟨ps, hps, hj⟩ := Option.bind_eq_some_iff.mp hj
    split at hj
    · rename_i hsh
      rw [Bool.and_eq_true] at hsh
      cases hx with
      | cons h1 h2 =>
        cases h2
        have hx' := toPy_dp (h1.r r.sub) hp
        have hv' := toPy_dp (p := .list ps) (hv.r r.sub) (by
          show (toPys es).map PyData.list = _
          rw [hps]
          rfl)
        obtain ⟨a, vs, rfl, _, _⟩ := hv.l r.sub
        obtain ⟨hl, e1, e2⟩ := List.findIdx?_eq_some_iff_getElem.mp hj
        refine ⟨a, _, p, ps, j, ps[j], rfl, rfl, hv', hx', hsh.2, hsh.1, List.getElem?_eq_getElem hl, e1, fun m z hm hz => ?_, hQ _ G H r (Gle.refl G) (.int _)⟩
        obtain ⟨hml, rfl⟩ := List.getElem?_eq_some_iff.mp hz
        exact Bool.eq_false_iff.mpr (e2 m hm)
    · cases hj
  · cases he
/-! walks over a text -/
def strS (x : Str) : Src := ⟨x.cps.size, fun _ => true, fun _ i => (x.cps[i]?).map fun c => .str ⟨#[c]⟩⟩
def srcS (fe : Env → Out EV) : Env → Out Src := fun env => (fe env).bind fun ev e1 => Out.of (((cont e1 ev).bind strD).map strS) e1
theorem turns_S {c : Ctx} {G : Hp} {x : Str} : Turns c G (Its x) (strS x) := by
  refine ⟨fun i G1 env σ H d r l hi hd => ⟨hi, fun v H' y => ?_⟩, fun G1 env σ H r l _ => Nat.le_refl _⟩
  obtain ⟨rfl, k, hk, rfl⟩ := y
  obtain ⟨k', hk', rfl⟩ := Option.map_eq_some_iff.mp hd
  rw [hk] at hk'
  cases hk'
  exact ⟨G1, r, Gle.refl _, .str _⟩
theorem sem_strI {te : TE} {fe : Env → Out EV} (he : SemD K mg W te fe) : SemI K mg W (iStr te) (srcS fe) := by
  intro c G env σ H hK hm r0 R hR
  refine he c G env σ H hK hm r0 _ (post_bind hR fun ev e1 v G1 H1 r1 l1 p1 q1 => ?_)
  obtain ⟨s, hs, q⟩ := post_of q1
  obtain ⟨x, hx, rfl⟩ := Option.map_eq_some_iff.mp hs
  obtain ⟨d, hd, hx⟩ := Option.bind_eq_some_iff.mp hx
  exact ⟨x, (r1.read (RD.rv p1) hd).str hx, q _ G1 H1 r1 (Gle.refl _) fun f l => turns_S⟩
/-! targets of any kind: what a store does is never a return or a jump -/
def calmS : OutS → Prop
  | .next _ | .exc _ _ _ | .stuck => True
  | _ => False
theorem sem_asgC {te : TE} {g : TG} {fe : Env → Out EV} {f : EV → Env → OutS} (he : SemE K mg W te fe) (hg : SemG K mg W g f) (hx : ∀ ev env, calmS (f ev env)) : SemS K mg W (tAsg te g) (sAsg fe f) := by
  intro c G env σ H D hK hm r h
  refine he c G env σ H hK hm r _ (post_toS h fun ev e1 v G1 H1 r1 l1 p1 q1 => ?_)
  refine hg c G1 e1 σ H1 v ev D.nx hK hm r1 p1 ?_
  have := hx ev e1
  revert q1 this
  cases f ev e1 with
  | next e => exact fun q1 _ => q1
  | exc x fs e => exact fun q1 _ => q1
  | stuck => exact fun q1 _ => q1
  | _ => exact fun _ z => z.elim
theorem calm_bind {o : OutS} {k : Env → OutS} (h : calmS o) (hk : ∀ e, calmS (k e)) : calmS (o.bind k) := by
  cases o with
  | next e => exact hk e
  | exc x fs e => trivial
  | stuck => trivial
  | _ => exact h.elim
theorem calm_toS {α : Type} {o : Out α} {k : α → Env → OutS} (hk : ∀ a e, calmS (k a e)) : calmS (o.toS k) := by
  cases o with
  | val a e => exact hk a e
  | exc x fs e => trivial
  | stuck => trivial
theorem calm_of (o : Option Env) : calmS (OutS.of o) := by cases o <;> trivial
theorem calm_gN (i : Nat) (ev : EV) (env : Env) : calmS (gN i ev env) := calm_of _
theorem calm_gSetL (fo fi : Env → Out EV) (ev : EV) (env : Env) : calmS (gSetL fo fi ev env) := by
  unfold gSetL
  cases freeze env ev with
  | none => trivial
  | some x => exact calm_toS fun _ _ => calm_toS fun _ _ => calm_of _
theorem calm_gsNil (ds : List D) (env : Env) : calmS (gsNil ds env) := by cases ds <;> trivial
theorem calm_gsCons {f : EV → Env → OutS} {fs : List D → Env → OutS} (h1 : ∀ ev env, calmS (f ev env)) (h2 : ∀ ds env, calmS (fs ds env)) (ds : List D) (env : Env) : calmS (gsCons f fs ds env) := by
  cases ds with
  | nil => trivial
  | cons d r => exact calm_bind (h1 _ _) (h2 r)
theorem calm_gT {n : Nat} {fs : List D → Env → OutS} (h : ∀ ds env, calmS (fs ds env)) (ev : EV) (env : Env) : calmS (gT n fs ev env) := by
  unfold gT
  split
  · split
    · exact h _ _
    · trivial
  · split
    · exact h _ _
    · trivial
  · trivial
end
end DL

/-! M1: merges of lists, plainly -/
namespace MG
variable {α : Type} [DecidableEq α]

/-- n stands behind a first name -/
def inT (ls : List (List α)) (n : α) : Bool := ls.any fun l => decide (n ∈ l.tail)
def heads (ls : List (List α)) : List α := ls.filterMap List.head?
def free (ls : List (List α)) : Option α := (heads ls).find? fun n => !inT ls n
def takeN (n : α) (ls : List (List α)) : List (List α) := ls.map fun l => if l.head? = some n then l.tail else l
def mergeN : Nat → List (List α) → Option (List α)
  | 0, ls => if ls.all List.isEmpty then some [] else none
  | k + 1, ls => if ls.all List.isEmpty then some [] else match free ls with
    | none => none
    | some n => (mergeN k (takeN n ls)).map (n :: ·)
def Ord (ls : List (List α)) : Prop := ∃ res : List α, res.Nodup ∧ ∀ l ∈ ls, l.Sublist res
def total (ls : List (List α)) : Nat := (ls.map List.length).sum

theorem inT_iff {ls : List (List α)} {n : α} : inT ls n = true ↔ ∃ l ∈ ls, n ∈ l.tail := by
  simp [inT]
theorem free_some {ls : List (List α)} {n : α} (h : free ls = some n) : (∃ l ∈ ls, l.head? = some n) ∧ ¬ ∃ l ∈ ls, n ∈ l.tail := by
  have h1 := List.mem_of_find?_eq_some h
  have h2 := List.find?_some h
  refine ⟨?_, ?_⟩
  · simpa [heads, List.mem_filterMap] using h1
  · intro h3
    rw [inT_iff.mpr h3] at h2
    cases h2
theorem free_none {ls : List (List α)} (h : free ls = none) {l : List α} {n : α} (hl : l ∈ ls) (hn : l.head? = some n) : ∃ l' ∈ ls, n ∈ l'.tail := by
  have := List.find?_eq_none.mp h n (by simp only [heads, List.mem_filterMap]; exact ⟨l, hl, hn⟩)
  have h2 : inT ls n = true := by
    cases hc : inT ls n with
    | true => rfl
    | false => simp [hc] at this
  exact inT_iff.mp h2
theorem all_empty {ls : List (List α)} : ls.all List.isEmpty = true ↔ ∀ l ∈ ls, l = [] := by
  simp [List.all_eq_true]

/-! ### the names -/
theorem takeN_mem {n : α} {ls : List (List α)} {l : List α} (h : l ∈ takeN n ls) : ∃ l0 ∈ ls, l = if l0.head? = some n then l0.tail else l0 := by
  simp only [takeN, List.mem_map] at h
  obtain ⟨l0, h1, h2⟩ := h
  exact ⟨l0, h1, h2.symm⟩
theorem takeN_nodup {n : α} {ls : List (List α)} (h : ∀ l ∈ ls, l.Nodup) : ∀ l ∈ takeN n ls, l.Nodup := by
  intro l hl
  obtain ⟨l0, h1, rfl⟩ := takeN_mem hl
  split
  · exact (h l0 h1).sublist (List.tail_sublist l0)
  · exact h l0 h1
theorem takeN_sub {n : α} {ls : List (List α)} {l : List α} (h : l ∈ takeN n ls) : ∃ l0 ∈ ls, l.Sublist l0 := by
  obtain ⟨l0, h1, rfl⟩ := takeN_mem h
  refine ⟨l0, h1, ?_⟩
  split
  · exact List.tail_sublist l0
  · exact List.Sublist.refl _
theorem takeN_free {n : α} {ls : List (List α)} (hd : ∀ l ∈ ls, l.Nodup) (h : ¬ ∃ l ∈ ls, n ∈ l.tail) : ∀ l ∈ takeN n ls, n ∉ l := by
  intro l hl hn
  obtain ⟨l0, h1, rfl⟩ := takeN_mem hl
  split at hn
  · exact h ⟨l0, h1, hn⟩
  · rename_i hh
    cases l0 with
    | nil => cases hn
    | cons a t =>
      rcases List.mem_cons.mp hn with e | e
      · exact hh (by rw [e]; rfl)
      · exact h ⟨_, h1, e⟩
theorem takeN_keeps {n x : α} {ls : List (List α)} (h : x ≠ n) : (∃ l ∈ ls, x ∈ l) ↔ ∃ l ∈ takeN n ls, x ∈ l := by
  constructor
  · rintro ⟨l, h1, h2⟩
    refine ⟨_, List.mem_map.mpr ⟨l, h1, rfl⟩, ?_⟩
    split
    · rename_i hh
      cases l with
      | nil => cases h2
      | cons a t =>
        cases hh
        rcases List.mem_cons.mp h2 with e | e
        · exact absurd e h
        · exact e
    · exact h2
  · rintro ⟨l, h1, h2⟩
    obtain ⟨l0, h3, h4⟩ := takeN_sub h1
    exact ⟨l0, h3, h4.subset h2⟩

/-! ### what a merge is -/
theorem mergeN_spec : ∀ {k : Nat} {ls : List (List α)} {res : List α}, (∀ l ∈ ls, l.Nodup) → mergeN k ls = some res →
    res.Nodup ∧ (∀ l ∈ ls, l.Sublist res) ∧ ∀ x, x ∈ res ↔ ∃ l ∈ ls, x ∈ l := by
  intro k
  have base : ∀ {ls : List (List α)} {res : List α}, ls.all List.isEmpty = true → some [] = some res → res.Nodup ∧ (∀ l ∈ ls, l.Sublist res) ∧ ∀ x, x ∈ res ↔ ∃ l ∈ ls, x ∈ l := by
    intro ls res he h
    cases h
    have := all_empty.mp he
    refine ⟨List.nodup_nil, fun l hl => by rw [this l hl]; exact List.Sublist.refl _, fun x => ⟨(fun h => by cases h), ?_⟩⟩
    rintro ⟨l, hl, hx⟩
    rw [this l hl] at hx
    exact hx
  induction k with
  | zero =>
    intro ls res hd h
    unfold mergeN at h
    split at h
    · rename_i he
      exact base he h
    · cases h
  | succ k ih =>
    intro ls res hd h
    unfold mergeN at h
    split at h
    · rename_i he
      exact base he h
    · cases hf : free ls with
      | none =>
        rw [hf] at h
        cases h
      | some n =>
        rw [hf] at h
        obtain ⟨⟨l1, h1, h1h⟩, h2⟩ := free_some hf
        cases hm : mergeN k (takeN n ls) with
        | none =>
          simp only [hm] at h
          cases h
        | some r =>
          simp only [hm] at h
          cases h
          obtain ⟨a, b, c⟩ := ih (takeN_nodup hd) hm
          have hn : n ∉ r := fun z => by
            obtain ⟨l, hl, hx⟩ := (c n).mp z
            exact takeN_free hd h2 l hl hx
          refine ⟨List.nodup_cons.mpr ⟨hn, a⟩, fun l hl => ?_, fun x => ?_⟩
          · have := b _ (List.mem_map.mpr ⟨l, hl, rfl⟩)
            split at this
            · rename_i hh
              cases l with
              | nil => cases hh
              | cons y t =>
                cases hh
                exact this.cons_cons n
            · exact this.cons n
          · by_cases hx : x = n
            · subst hx
              refine ⟨fun _ => ⟨l1, h1, ?_⟩, fun _ => List.mem_cons_self⟩
              exact List.mem_of_mem_head? h1h
            · rw [takeN_keeps hx, ← c x]
              simp [hx]

/-! ### the first of an order -/
theorem Ord.free {ls : List (List α)} (h : Ord ls) (hne : ¬ ∀ l ∈ ls, l = []) : ∃ n, free ls = some n := by
  obtain ⟨res, hd, hs⟩ := h
  cases hf : MG.free ls with
  | some n => exact ⟨n, rfl⟩
  | none =>
    exfalso
    -- no element of res is in a list
    have key : ∀ (post pre : List α), res = pre ++ post → (∀ x ∈ pre, ∀ l ∈ ls, x ∉ l) → ∀ x ∈ post, ∀ l ∈ ls, x ∉ l := by
      intro post
      induction post with
      | nil => exact fun _ _ _ x hx => by cases hx
      | cons y post ih =>
        intro pre e hp
        have hy : ∀ l ∈ ls, y ∉ l := by
          intro l hl hxl
          -- y is the head of l and in no tail
          have front : ∀ l' ∈ ls, y ∈ l' → l'.head? = some y ∧ y ∉ l'.tail := by
            intro l' hl' hx'
            have hsub := hs l' hl'
            rw [e] at hsub
            obtain ⟨l1, l2, rfl, s1, s2⟩ := List.sublist_append_iff.mp hsub
            have : l1 = [] := by
              cases l1 with
              | nil => rfl
              | cons z r => exact absurd (by simp) (hp z (s1.subset (by simp)) _ hl')
            subst this
            have hnd : (y :: post).Nodup := by
              rw [e] at hd
              exact (List.nodup_append.mp hd).2.1
            simp only [List.nil_append] at hx' ⊢
            cases l2 with
            | nil => cases hx'
            | cons z r =>
              have hr : r.Sublist post := by
                have := s2.tail
                simpa using this
              have hxr : y ∉ r := fun q => (List.nodup_cons.mp hnd).1 (hr.subset q)
              rcases List.mem_cons.mp hx' with q | q
              · subst q
                exact ⟨rfl, hxr⟩
              · exact absurd q hxr
          obtain ⟨a, b⟩ := front l hl hxl
          obtain ⟨l', hl', hx'⟩ := free_none hf hl a
          exact (front l' hl' (List.mem_of_mem_tail hx')).2 hx'
        intro x hx
        rcases List.mem_cons.mp hx with q | q
        · rw [q]
          exact hy
        · refine ih (pre ++ [y]) (by rw [e]; simp) (fun z hz => ?_) x q
          rcases List.mem_append.mp hz with w | w
          · exact hp z w
          · rw [List.mem_singleton.mp w]
            exact hy
    refine hne fun l hl => ?_
    cases l with
    | nil => rfl
    | cons x t => exact absurd (by simp) (key res [] rfl (fun _ z => by cases z) x ((hs _ hl).subset (by simp)) _ hl)
theorem Ord.sub {ls ls' : List (List α)} (h : Ord ls) (hs : ∀ l ∈ ls', ∃ l0 ∈ ls, l.Sublist l0) : Ord ls' := by
  obtain ⟨res, hd, h⟩ := h
  refine ⟨res, hd, fun l hl => ?_⟩
  obtain ⟨l0, h0, h1⟩ := hs l hl
  exact h1.trans (h l0 h0)
theorem Ord.nodup {ls : List (List α)} (h : Ord ls) : ∀ l ∈ ls, l.Nodup := by
  obtain ⟨res, hd, h⟩ := h
  exact fun l hl => hd.sublist (h l hl)
theorem total_le_of {ls ls' : List (List α)} {f : List α → List α} (h : ls' = ls.map f) (hf : ∀ l, (f l).length ≤ l.length) : total ls' ≤ total ls := by
  subst h
  induction ls with
  | nil => exact Nat.le_refl _
  | cons l r ih =>
    simp only [total, List.map_cons, List.sum_cons] at ih ⊢
    exact Nat.add_le_add (hf l) ih
theorem total_lt_of {ls : List (List α)} {f : List α → List α} (hf : ∀ l, (f l).length ≤ l.length) {l : List α} (hl : l ∈ ls) (hlt : (f l).length < l.length) : total (ls.map f) < total ls := by
  induction ls with
  | nil => cases hl
  | cons a r ih =>
    simp only [total, List.map_cons, List.sum_cons] at ih ⊢
    rcases List.mem_cons.mp hl with e | e
    · subst e
      have := total_le_of (ls := r) rfl hf
      simp only [total] at this
      omega
    · have := ih e
      have := hf a
      omega
theorem total_zero {ls : List (List α)} (h : total ls = 0) : ∀ l ∈ ls, l = [] := by
  induction ls with
  | nil => intro l hl; cases hl
  | cons a r ih =>
    simp only [total, List.map_cons, List.sum_cons] at ih h
    intro l hl
    rcases List.mem_cons.mp hl with e | e
    · subst e
      exact List.eq_nil_of_length_eq_zero (by omega)
    · exact ih (by omega) l e
theorem Ord.merge : ∀ {k : Nat} {ls : List (List α)}, Ord ls → total ls ≤ k → ∃ res, mergeN k ls = some res := by
  intro k
  induction k with
  | zero =>
    intro ls ho ht
    refine ⟨[], ?_⟩
    unfold mergeN
    rw [if_pos (all_empty.mpr (total_zero (by omega)))]
  | succ k ih =>
    intro ls ho ht
    unfold mergeN
    by_cases he : ls.all List.isEmpty = true
    · exact ⟨[], by rw [if_pos he]⟩
    · rw [if_neg he]
      obtain ⟨n, hn⟩ := ho.free fun z => he (all_empty.mpr z)
      rw [hn]
      obtain ⟨⟨l, hl, hh⟩, _⟩ := free_some hn
      have lt : total (takeN n ls) < total ls := by
        refine total_lt_of (f := fun l => if l.head? = some n then l.tail else l) (fun l => ?_) hl ?_
        · split
          · simp
          · exact Nat.le_refl _
        · simp only [hh, if_true]
          cases l with
          | nil => cases hh
          | cons a t => simp
      obtain ⟨r, hr⟩ := ih (ho.sub fun l hl => takeN_sub hl) (by omega : total (takeN n ls) ≤ k)
      exact ⟨n :: r, by simp only [hr]; rfl⟩

/-! ### lists of one order that is among them -/
theorem merge_of_order : ∀ {k : Nat} {found : List α} {ls : List (List α)}, found.Nodup → found ∈ ls → (∀ l ∈ ls, l.Sublist found) → found.length ≤ k → mergeN k ls = some found := by
  intro k
  induction k with
  | zero =>
    intro found ls hd hm hs hk
    have : found = [] := List.eq_nil_of_length_eq_zero (by omega)
    subst this
    unfold mergeN
    rw [if_pos (all_empty.mpr fun l hl => List.sublist_nil.mp (hs l hl))]
  | succ k ih =>
    intro found ls hd hm hs hk
    unfold mergeN
    cases found with
    | nil => rw [if_pos (all_empty.mpr fun l hl => List.sublist_nil.mp (hs l hl))]
    | cons n t =>
      have hne : ¬ ls.all List.isEmpty = true := fun z => by
        have := all_empty.mp z _ hm
        cases this
      rw [if_neg hne]
      have hnt : n ∉ t := (List.nodup_cons.mp hd).1
      have tl : ∀ l ∈ ls, l.tail.Sublist t := fun l hl => by
        have := (hs l hl).tail
        simpa using this
      have hf : free ls = some n := by
        cases hf : free ls with
        | none =>
          obtain ⟨l', h1, h2⟩ := free_none hf hm (n := n) rfl
          exact absurd ((tl l' h1).subset h2) hnt
        | some m =>
          obtain ⟨⟨l, h1, h2⟩, h3⟩ := free_some hf
          have : m ∈ n :: t := (hs l h1).subset (List.mem_of_mem_head? h2)
          rcases List.mem_cons.mp this with e | e
          · rw [e]
          · exact absurd ⟨_, hm, e⟩ h3
      rw [hf]
      have := ih (found := t) (ls := takeN n ls) (List.nodup_cons.mp hd).2 ?_ ?_ (by simp at hk; omega)
      · simp only [this]
        rfl
      · exact List.mem_map.mpr ⟨_, hm, by simp⟩
      · intro l hl
        obtain ⟨l0, h1, rfl⟩ := takeN_mem hl
        split
        · exact tl l0 h1
        · rename_i hh
          have := hs l0 h1
          cases l0 with
          | nil => exact List.nil_sublist _
          | cons a r =>
            cases this with
            | cons _ h => exact h
            | cons_cons _ _ => exact absurd rfl hh

/-! ### taking all free names at once -/
def ddp : List α → List α
  | [] => []
  | a :: r => if a ∈ ddp r then ddp r else a :: ddp r
theorem ddp_mem {l : List α} {x : α} : x ∈ ddp l ↔ x ∈ l := by
  induction l with
  | nil => exact Iff.rfl
  | cons a r ih =>
    unfold ddp
    split
    · rename_i h
      rw [List.mem_cons, ih]
      refine ⟨.inr, ?_⟩
      rintro (e | e)
      · exact ih.mp (by rw [e]; exact h)
      · exact e
    · rw [List.mem_cons, List.mem_cons, ih]
theorem ddp_nodup {l : List α} : (ddp l).Nodup := by
  induction l with
  | nil => exact List.nodup_nil
  | cons a r ih =>
    unfold ddp
    split
    · exact ih
    · rename_i h
      exact List.nodup_cons.mpr ⟨h, ih⟩
def freeL (ls : List (List α)) : List α := ls.flatten.filter fun n => !inT ls n
def openN : Nat → List (List α) → Bool
  | 0, _ => false
  | k + 1, ls => if freeL ls = [] then decide (ls.flatten = []) else openN k (ls.map fun l => l.filter fun n => decide (n ∉ freeL ls))
theorem freeL_mem {ls : List (List α)} {n : α} : n ∈ freeL ls ↔ (∃ l ∈ ls, n ∈ l) ∧ ¬ ∃ l ∈ ls, n ∈ l.tail := by
  simp only [freeL, List.mem_filter, List.mem_flatten]
  constructor
  · rintro ⟨h1, h2⟩
    refine ⟨h1, fun h3 => ?_⟩
    rw [inT_iff.mpr h3] at h2
    cases h2
  · rintro ⟨h1, h2⟩
    refine ⟨h1, ?_⟩
    cases hc : inT ls n with
    | true => exact absurd (inT_iff.mp hc) h2
    | false => rfl
theorem openN_ord : ∀ {k : Nat} {ls : List (List α)}, openN k ls = true → Ord ls := by
  intro k
  induction k with
  | zero => intro ls h; cases h
  | succ k ih =>
    intro ls h
    unfold openN at h
    split at h
    · have h := of_decide_eq_true h
      refine ⟨[], List.nodup_nil, fun l hl => ?_⟩
      have : l = [] := by
        cases l with
        | nil => rfl
        | cons a t =>
          have : a ∈ ls.flatten := List.mem_flatten.mpr ⟨_, hl, by simp⟩
          rw [h] at this
          cases this
      rw [this]
      exact List.Sublist.refl _
    · obtain ⟨res, hd, hs⟩ := ih h
      refine ⟨ddp (freeL ls) ++ res.filter (fun n => decide (n ∉ freeL ls)), ?_, fun l hl => ?_⟩
      · rw [List.nodup_append]
        refine ⟨ddp_nodup, hd.sublist List.filter_sublist, fun a ha b hb e => ?_⟩
        subst e
        have := (List.mem_filter.mp hb).2
        have := of_decide_eq_true this
        exact this (ddp_mem.mp ha)
      · have h1 := hs _ (List.mem_map.mpr ⟨l, hl, rfl⟩)
        have h2 : (l.filter fun n => decide (n ∉ freeL ls)).Sublist (res.filter (fun n => decide (n ∉ freeL ls))) := by
          have := h1.filter (fun n => decide (n ∉ freeL ls))
          simpa [List.filter_filter] using this
        cases l with
        | nil => exact List.nil_sublist _
        | cons a t =>
          have ht : t.filter (fun n => decide (n ∉ freeL ls)) = t := by
            refine List.filter_eq_self.mpr fun x hx => decide_eq_true fun z => ?_
            exact (freeL_mem.mp z).2 ⟨_, hl, hx⟩
          by_cases ha : a ∈ freeL ls
          · rw [List.filter_cons, if_neg (by simpa using ha), ht] at h2
            have : ([a] ++ t).Sublist (ddp (freeL ls) ++ res.filter (fun n => decide (n ∉ freeL ls))) :=
              List.Sublist.append (List.singleton_sublist.mpr (ddp_mem.mpr ha)) h2
            exact this
          · rw [List.filter_cons, if_pos (by simpa using ha), ht] at h2
            exact h2.trans (List.sublist_append_right _ _)
theorem ord_openN : ∀ {k : Nat} {ls : List (List α)}, Ord ls → total ls < k → openN k ls = true := by
  intro k
  induction k with
  | zero => intro ls _ h; omega
  | succ k ih =>
    intro ls ho ht
    unfold openN
    by_cases he : ∀ l ∈ ls, l = []
    · have hfl : ls.flatten = [] := by
        cases hx : ls.flatten with
        | nil => rfl
        | cons a t =>
          have : a ∈ ls.flatten := by rw [hx]; simp
          obtain ⟨l, h1, h2⟩ := List.mem_flatten.mp this
          rw [he l h1] at h2
          cases h2
      have : freeL ls = [] := by
        unfold freeL
        rw [hfl]
        rfl
      rw [if_pos this, hfl]
      rfl
    · obtain ⟨n, hn⟩ := ho.free he
      obtain ⟨⟨l, hl, hh⟩, h3⟩ := free_some hn
      have hm : n ∈ freeL ls := freeL_mem.mpr ⟨⟨l, hl, List.mem_of_mem_head? hh⟩, h3⟩
      rw [if_neg (fun z => by rw [z] at hm; cases hm)]
      have hle : ∀ l : List α, (l.filter fun n => decide (n ∉ freeL ls)).length ≤ l.length := fun l => List.length_filter_le _ _
      refine ih (ho.sub fun l hl => ?_) ?_
      · obtain ⟨l0, h1, rfl⟩ := List.mem_map.mp hl
        exact ⟨l0, h1, List.filter_sublist⟩
      · have : total (ls.map fun l => l.filter fun n => decide (n ∉ freeL ls)) < total ls := by
          refine total_lt_of hle hl ?_
          cases l with
          | nil => cases hh
          | cons a t =>
            cases hh
            rw [List.filter_cons, if_neg (by simpa using hm)]
            have := List.length_filter_le (fun n => decide (n ∉ freeL ls)) t
            simp only [List.length_cons]
            omega
        omega
end MG

/-! M2: walks of demands, cycles -/
namespace MG
variable {α : Type} [DecidableEq α]

def Wk (E : α → α → Prop) : Nat → α → α → Prop
  | 0, a, c => a = c
  | k + 1, a, c => ∃ b, E a b ∧ Wk E k b c
theorem Wk.snoc {E : α → α → Prop} : ∀ {k : Nat} {a b c : α}, Wk E k a b → E b c → Wk E (k + 1) a c
  | 0, a, b, c, h, e => by
    have h : a = b := h
    subst h
    exact ⟨c, e, rfl⟩
  | k + 1, a, b, c, ⟨x, h1, h2⟩, e => ⟨x, h1, h2.snoc e⟩
theorem Wk.mono {E F : α → α → Prop} (h : ∀ a b, E a b → F a b) : ∀ {k : Nat} {a c : α}, Wk E k a c → Wk F k a c
  | 0, _, _, e => e
  | k + 1, _, _, ⟨b, h1, h2⟩ => ⟨b, h _ _ h1, h2.mono h⟩
theorem Wk.append {E : α → α → Prop} : ∀ {i j : Nat} {a b c : α}, Wk E i a b → Wk E j b c → Wk E (i + j) a c
  | 0, j, a, b, c, h, g => by
    have h : a = b := h
    subst h
    rw [Nat.zero_add]
    exact g
  | i + 1, j, a, b, c, ⟨x, h1, h2⟩, g => by
    rw [Nat.succ_add]
    exact ⟨x, h1, h2.append g⟩

theorem nodup_le : ∀ {l m : List α}, l.Nodup → (∀ x ∈ l, x ∈ m) → l.length ≤ m.length
  | [], _, _, _ => Nat.zero_le _
  | a :: l, m, hd, hs => by
    have ha := hs a (by simp)
    have hd' := List.nodup_cons.mp hd
    have := nodup_le (l := l) (m := m.erase a) hd'.2 fun x hx => by
      have hne : x ≠ a := fun z => hd'.1 (z ▸ hx)
      exact (List.mem_erase_of_ne hne).mpr (hs x (by simp [hx]))
    rw [List.length_erase_of_mem ha] at this
    have hpos := List.length_pos_of_mem ha
    simp only [List.length_cons]
    omega
/-- a list with more items than there are has one twice -/
theorem twice {l : List α} (h : ¬ l.Nodup) : ∃ i j, i < j ∧ j < l.length ∧ l[i]? = l[j]? := by
  induction l with
  | nil => exact absurd List.nodup_nil h
  | cons a r ih =>
    by_cases ha : a ∈ r
    · obtain ⟨j, hj, e⟩ := List.getElem_of_mem ha
      exact ⟨0, j + 1, by omega, (by simp; omega), by rw [List.getElem?_cons_zero, List.getElem?_cons_succ, List.getElem?_eq_getElem hj, e]⟩
    · have hr : ¬ r.Nodup := fun z => h (List.nodup_cons.mpr ⟨ha, z⟩)
      obtain ⟨i, j, h1, h2, h3⟩ := ih hr
      exact ⟨i + 1, j + 1, by omega, by simp; omega, by simpa using h3⟩

def Dm (ls : List (List α)) (a b : α) : Prop := ∃ l ∈ ls, [a, b].Sublist l
def iter (p : α → α) : Nat → α → α
  | 0, a => a
  | n + 1, a => p (iter p n a)
theorem iter_walk {E : α → α → Prop} {p : α → α} {S : α → Prop} (hp : ∀ a, S a → S (p a) ∧ E (p a) a) {a : α} (ha : S a) : ∀ (n : Nat), S (iter p n a) ∧ ∀ m, Wk E m (iter p (n + m) a) (iter p n a) := by
  have hs : ∀ n, S (iter p n a) := fun n => by
    induction n with
    | zero => exact ha
    | succ n ih => exact (hp _ ih).1
  refine fun n => ⟨hs n, fun m => ?_⟩
  induction m with
  | zero => exact rfl
  | succ m ih => exact ⟨iter p (n + m) a, (hp _ (hs _)).2, ih⟩
theorem stuck_cycle {ls : List (List α)} (h : free ls = none) (hne : ¬ ∀ l ∈ ls, l = []) : ∃ k a, 0 < k ∧ k ≤ ls.length ∧ Wk (Dm ls) k a a := by
  -- each head has a head ahead of it
  have prev : ∀ a, a ∈ heads ls → ∃ b, b ∈ heads ls ∧ Dm ls b a := by
    intro a ha
    simp only [heads, List.mem_filterMap] at ha
    obtain ⟨l, h1, h2⟩ := ha
    obtain ⟨l', h3, h4⟩ := free_none h h1 h2
    cases l' with
    | nil => cases h4
    | cons b t =>
      refine ⟨b, ?_, _, h3, ?_⟩
      · simp only [heads, List.mem_filterMap]
        exact ⟨_, h3, rfl⟩
      · exact (List.singleton_sublist.mpr h4).cons_cons b
  have hex : ∃ p : α → α, ∀ a, a ∈ heads ls → p a ∈ heads ls ∧ Dm ls (p a) a := by
    refine ⟨fun a => if ha : a ∈ heads ls then (prev a ha).choose else a, fun a ha => ?_⟩
    simp only [ha, dif_pos]
    exact (prev a ha).choose_spec
  obtain ⟨p, hp⟩ := hex
  have hn0 : ∃ n0, n0 ∈ heads ls := by
    have : ∃ l, l ∈ ls ∧ l ≠ [] := by
      refine Classical.byContradiction fun z => hne fun l hl => ?_
      exact Classical.byContradiction fun w => z ⟨l, hl, w⟩
    obtain ⟨l, hl, hl2⟩ := this
    cases l with
    | nil => exact absurd rfl hl2
    | cons a t => exact ⟨a, by simp only [heads, List.mem_filterMap]; exact ⟨_, hl, rfl⟩⟩
  obtain ⟨n0, hn0⟩ := hn0
  let seq := (List.range ((heads ls).length + 1)).map fun i => iter p i n0
  have hnd : ¬ seq.Nodup := fun z => by
    have := nodup_le (m := heads ls) z fun x hx => by
      obtain ⟨i, _, rfl⟩ := List.mem_map.mp hx
      exact (iter_walk (S := fun a => a ∈ heads ls) hp hn0 i).1
    simp [seq] at this
    omega
  obtain ⟨i, j, hij, hj, e⟩ := twice hnd
  simp only [seq, List.length_map, List.length_range] at hj
  have hi : i < (heads ls).length + 1 := by omega
  simp only [seq, List.getElem?_map, List.getElem?_range hi, List.getElem?_range hj, Option.map_some] at e
  have e := Option.some.inj e
  have hw := (iter_walk (S := fun a => a ∈ heads ls) hp hn0 i).2 (j - i)
  rw [show i + (j - i) = j by omega, ← e] at hw
  have hh : (heads ls).length ≤ ls.length := List.length_filterMap_le _ _
  exact ⟨j - i, iter p i n0, by omega, by omega, hw⟩
theorem none_cycle : ∀ {k : Nat} {ls : List (List α)}, mergeN k ls = none → total ls ≤ k → ∃ j a, 0 < j ∧ j ≤ ls.length ∧ Wk (Dm ls) j a a := by
  intro k
  induction k with
  | zero =>
    intro ls h ht
    unfold mergeN at h
    rw [if_pos (all_empty.mpr (total_zero (by omega)))] at h
    cases h
  | succ k ih =>
    intro ls h ht
    unfold mergeN at h
    by_cases he : ls.all List.isEmpty = true
    · rw [if_pos he] at h
      cases h
    · rw [if_neg he] at h
      have hne : ¬ ∀ l ∈ ls, l = [] := fun z => he (all_empty.mpr z)
      cases hf : free ls with
      | none => exact stuck_cycle hf hne
      | some n =>
        rw [hf] at h
        obtain ⟨⟨l, hl, hh⟩, _⟩ := free_some hf
        have lt : total (takeN n ls) < total ls := by
          refine total_lt_of (f := fun l => if l.head? = some n then l.tail else l) (fun l => ?_) hl ?_
          · split
            · simp
            · exact Nat.le_refl _
          · simp only [hh, if_true]
            cases l with
            | nil => cases hh
            | cons a t => simp
        have h' : mergeN k (takeN n ls) = none := by
          cases hm : mergeN k (takeN n ls) with
          | none => rfl
          | some r =>
            simp only [hm] at h
            cases h
        obtain ⟨j, a, h1, h2, h3⟩ := ih h' (by omega)
        refine ⟨j, a, h1, by simpa [takeN] using h2, h3.mono fun x y => ?_⟩
        rintro ⟨l, h4, h5⟩
        obtain ⟨l0, h6, h7⟩ := takeN_sub h4
        exact ⟨l0, h6, h5.trans h7⟩
/-- a closed walk of the fewest demands -/
theorem least_cycle {E : α → α → Prop} {m : Nat} {a : α} (hm : 0 < m) (h : Wk E m a a) : ∃ k, 0 < k ∧ k ≤ m ∧ (∃ b, Wk E k b b) ∧ ∀ j b, 0 < j → j < k → ¬ Wk E j b b := by
  induction m using Nat.strongRecOn generalizing a with
  | ind m ih =>
    by_cases hc : ∃ j b, 0 < j ∧ j < m ∧ Wk E j b b
    · obtain ⟨j, b, h1, h2, h3⟩ := hc
      obtain ⟨k, h4, h5, h6, h7⟩ := ih j h2 h1 h3
      exact ⟨k, h4, by omega, h6, h7⟩
    · exact ⟨m, hm, Nat.le_refl _, ⟨a, h⟩, fun j b h1 h2 h3 => hc ⟨j, b, h1, h2, h3⟩⟩
end MG

/-! M3: the counts of names behind first names -/
namespace MG
variable {α : Type} [DecidableEq α]
def cnt (ls : List (List α)) (n : α) : Int := (ls.map fun l => (l.tail.count n : Int)).sum
theorem cnt_nil (n : α) : cnt ([] : List (List α)) n = 0 := rfl
theorem cnt_cons (l : List α) (ls : List (List α)) (n : α) : cnt (l :: ls) n = (l.tail.count n : Int) + cnt ls n := rfl
theorem cnt_append (ls ms : List (List α)) (n : α) : cnt (ls ++ ms) n = cnt ls n + cnt ms n := by
  induction ls with
  | nil => simp [cnt_nil]
  | cons l ls ih =>
    rw [List.cons_append, cnt_cons, cnt_cons, ih]
    omega
theorem cnt_nonneg (ls : List (List α)) (n : α) : 0 ≤ cnt ls n := by
  induction ls with
  | nil => exact Int.le_refl _
  | cons l ls ih =>
    rw [cnt_cons]
    omega
theorem cnt_zero {ls : List (List α)} {n : α} : cnt ls n = 0 ↔ inT ls n = false := by
  induction ls with
  | nil => simp [cnt_nil, inT]
  | cons l ls ih =>
    rw [cnt_cons]
    have h1 := cnt_nonneg ls n
    have h2 : inT (l :: ls) n = (decide (n ∈ l.tail) || inT ls n) := rfl
    rw [h2, Bool.or_eq_false_iff, ← ih, decide_eq_false_iff_not, ← List.count_eq_zero (l := l.tail)]
    omega
theorem cnt_set {ls : List (List α)} {i : Nat} {r r' : List α} (h : ls[i]? = some r) (n : α) : cnt (ls.set i r') n = cnt ls n - (r.tail.count n : Int) + (r'.tail.count n : Int) := by
  induction ls generalizing i with
  | nil => cases h
  | cons l ls ih =>
    cases i with
    | zero =>
      cases h
      rw [List.set_cons_zero, cnt_cons, cnt_cons]
      omega
    | succ i =>
      rw [List.set_cons_succ, cnt_cons, cnt_cons, ih (by simpa using h)]
      omega
def rem (ls : List (List α)) (st : List Nat) : List (List α) := List.zipWith (fun l s => l.drop s) ls st
theorem rem_get {ls : List (List α)} {st : List Nat} {i : Nat} {l : List α} {s : Nat} (h : ls[i]? = some l) (g : st[i]? = some s) : (rem ls st)[i]? = some (l.drop s) := by
  unfold rem
  rw [List.getElem?_zipWith, h, g]
theorem rem_set {ls : List (List α)} {st : List Nat} {i : Nat} {l : List α} (h : ls[i]? = some l) (k : Nat) : rem ls (st.set i k) = (rem ls st).set i (l.drop k) := by
  induction ls generalizing i st with
  | nil => cases h
  | cons a ls ih =>
    cases st with
    | nil => simp [rem]
    | cons b st =>
      cases i with
      | zero =>
        cases h
        simp [rem]
      | succ i =>
        have := ih (st := st) (i := i) (by simpa using h)
        simp only [rem, List.set_cons_succ, List.zipWith_cons_cons] at this ⊢
        rw [this]
theorem rem_zero (ls : List (List α)) : rem ls (List.replicate ls.length 0) = ls := by
  induction ls with
  | nil => rfl
  | cons a ls ih =>
    simp only [rem, List.length_cons, List.replicate_succ, List.zipWith_cons_cons, List.drop_zero] at ih ⊢
    rw [ih]
theorem rem_length {ls : List (List α)} {st : List Nat} (h : st.length = ls.length) : (rem ls st).length = ls.length := by
  unfold rem
  rw [List.length_zipWith, h, Nat.min_self]
/-- the first i lists are done -/
def part (n : α) (R : List (List α)) (i : Nat) : List (List α) := takeN n (R.take i) ++ R.drop i
theorem part_zero (n : α) (R : List (List α)) : part n R 0 = R := by simp [part, takeN]
theorem part_all (n : α) (R : List (List α)) : part n R R.length = takeN n R := by simp [part]
theorem part_get {n : α} {R : List (List α)} {i : Nat} {r : List α} (h : R[i]? = some r) : (part n R i)[i]? = some r := by
  have hl : i < R.length := (List.getElem?_eq_some_iff.mp h).1
  unfold part
  rw [List.getElem?_append_right (by simp [takeN]; omega)]
  simp [takeN, Nat.min_eq_left (Nat.le_of_lt hl), h]
theorem part_succ {n : α} {R : List (List α)} {i : Nat} {r : List α} (h : R[i]? = some r) : part n R (i + 1) = (part n R i).set i (if r.head? = some n then r.tail else r) := by
  have hl : i < R.length := (List.getElem?_eq_some_iff.mp h).1
  have e : R.take (i + 1) = R.take i ++ [r] := by rw [List.take_add_one, h]; rfl
  have e2 : R.drop i = r :: R.drop (i + 1) := by
    rw [List.drop_eq_getElem_cons hl]
    have := (List.getElem?_eq_some_iff.mp h).2
    rw [this]
  unfold part
  rw [e, e2]
  rw [List.set_append_right _ _ (by simp [takeN]; omega)]
  simp [takeN, Nat.min_eq_left (Nat.le_of_lt hl)]
theorem part_same {n : α} {R : List (List α)} {i : Nat} {r : List α} (h : R[i]? = some r) (hr : r.head? ≠ some n) : part n R (i + 1) = part n R i := by
  rw [part_succ h, if_neg hr]
  have := part_get (n := n) h
  obtain ⟨hl, e⟩ := List.getElem?_eq_some_iff.mp this
  rw [← e, List.set_getElem_self]
/-- the names of lists -/
def allN (ls : List (List α)) (n : α) : Prop := ∃ l ∈ ls, n ∈ l
end MG

/-! P1: reckoning with bodies over slots -/
namespace DL
open PySem L2 PySem.Spec PyProof.Rows
section
@[simp] theorem atI_n {α : Type} {xs : List α} {n : Nat} (h : n < xs.length) : atI xs (n : Int) = some xs[n] := by
  have : ixN xs.length (n : Int) = some n := by
    unfold ixN
    rw [if_pos (by omega), if_pos (by omega), Int.toNat_natCast]
  unfold atI
  rw [this]
  exact List.getElem?_eq_getElem h
theorem atI_get {α : Type} {xs : List α} {n : Nat} {x : α} (h : xs[n]? = some x) : atI xs (n : Int) = some x := by
  obtain ⟨hl, rfl⟩ := List.getElem?_eq_some_iff.mp h
  exact atI_n hl
end
def bag (a b c : Int) : D := .lst [.int a, .int b, .int c]

/-! ### one turn of a comprehension -/
def oneC (g : EV → Env → OutS) (ft : Env → Out Bool) (fe : Env → Out EV) (vs : List Nat) (d : D) (env : Env) : Option (Option D × Env) := match g (.dat d) env with
  | .next e1 => match ft e1 with
    | .val false e2 => if wipable e2 vs = true then some (none, wipeE e2 vs) else none
    | .val true e2 => match fe e2 with
      | .val ev e3 => match freeze e3 ev with
        | some (d, e4) => if wipable e4 vs = true then some (some d, wipeE e4 vs) else none
        | none => none
      | _ => none
    | _ => none
  | _ => none
section
variable {s : Src} {g : EV → Env → OutS} {ft : Env → Out Bool} {fe : Env → Out EV} {vs : List Nat}
theorem loopC_one {r : Nat} {acc : List D} {env env' : Env} {d : D} {o : Option D} (h1 : s.it env (s.n - (r + 1)) = some d) (h2 : oneC g ft fe vs d env = some (o, env')) (h3 : acc.length < sizeLine) :
    loopC s g ft fe vs (r + 1) acc env = loopC s g ft fe vs r (acc ++ o.toList) env' := by
  unfold oneC at h2
  rw [loopC, h1]
  simp only
  cases hg : g (.dat d) env with
  | next e1 =>
    rw [hg] at h2
    simp only at h2 ⊢
    cases ht : ft e1 with
    | val b e2 =>
      rw [ht] at h2
      cases b with
      | false =>
        simp only at h2 ⊢
        split at h2
        · rename_i hw
          cases h2
          rw [if_pos hw]
          simp
        · cases h2
      | true =>
        simp only at h2 ⊢
        cases hf : fe e2 with
        | val ev e3 =>
          rw [hf] at h2
          simp only at h2 ⊢
          cases hz : freeze e3 ev with
          | none =>
            rw [hz] at h2
            cases h2
          | some p =>
            obtain ⟨d', e4⟩ := p
            rw [hz] at h2
            simp only at h2 ⊢
            split at h2
            · rename_i hw
              cases h2
              rw [if_pos ⟨h3, hw⟩]
              rfl
            · cases h2
        | exc x fs e => rw [hf] at h2; cases h2
        | stuck => rw [hf] at h2; cases h2
    | exc x fs e => rw [ht] at h2; cases h2
    | stuck => rw [ht] at h2; cases h2
  | _ => rw [hg] at h2; cases h2
/-- a comprehension, by what holds between two turns -/
theorem loopC_inv {I : Nat → List D → Env → Prop} (hok : ∀ acc env, I s.n acc env → s.ok env = true)
    (step : ∀ i acc env, i < s.n → I i acc env → ∃ d o env', s.it env i = some d ∧ oneC g ft fe vs d env = some (o, env') ∧ acc.length < sizeLine ∧ I (i + 1) (acc ++ o.toList) env') :
    ∀ (r : Nat) (acc : List D) (env : Env), r ≤ s.n → I (s.n - r) acc env → ∃ acc' env', loopC s g ft fe vs r acc env = .val (.new (.lst acc')) env' ∧ I s.n acc' env' := by
  intro r
  induction r with
  | zero =>
    intro acc env _ h
    refine ⟨acc, env, ?_, by simpa using h⟩
    rw [loopC, if_pos (hok acc env (by simpa using h))]
  | succ r ih =>
    intro acc env hr h
    obtain ⟨d, o, env', h1, h2, h3, h4⟩ := step _ acc env (by omega) h
    rw [loopC_one h1 h2 h3]
    exact ih _ _ (by omega) (by rw [show s.n - r = s.n - (r + 1) + 1 by omega]; exact h4)
theorem eLc_inv {fs : Env → Out Src} {I : Nat → List D → Env → Prop} {env e0 : Env} (hs : fs env = .val s e0) (hw : wipable e0 vs = true) (h0 : I 0 [] (wipeE e0 vs)) (hok : ∀ acc env, I s.n acc env → s.ok env = true)
    (step : ∀ i acc env, i < s.n → I i acc env → ∃ d o env', s.it env i = some d ∧ oneC g ft fe vs d env = some (o, env') ∧ acc.length < sizeLine ∧ I (i + 1) (acc ++ o.toList) env') :
    ∃ acc' env', eLc fs g ft fe vs env = .val (.new (.lst acc')) env' ∧ I s.n acc' env' := by
  obtain ⟨acc', env', h1, h2⟩ := loopC_inv hok step s.n [] (wipeE e0 vs) (Nat.le_refl _) (by rw [Nat.sub_self]; exact h0)
  refine ⟨acc', env', ?_, h2⟩
  unfold eLc
  rw [hs]
  show (if wipable e0 vs = true then _ else _) = _
  rw [if_pos hw, h1]
/-- a comprehension whose turns change no slot -/
theorem loopC_pure {α : Type} {inj : α → D} {p : α → Bool} {out : α → D} {env : Env} (hok : s.ok env = true) {xs : List α} (hn : s.n = xs.length) (hit : ∀ i x, xs[i]? = some x → s.it env i = some (inj x))
    (h : ∀ x ∈ xs, oneC g ft fe vs (inj x) env = some (if p x then some (out x) else none, env)) :
    ∀ (r : Nat) (acc : List D), r ≤ xs.length → acc.length + r ≤ sizeLine → loopC s g ft fe vs r acc env = .val (.new (.lst (acc ++ ((xs.drop (xs.length - r)).filter p).map out))) env := by
  intro r
  induction r with
  | zero =>
    intro acc _ _
    rw [loopC, if_pos hok]
    simp
  | succ r ih =>
    intro acc hr hz
    have hl : xs.length - (r + 1) < xs.length := by omega
    have hx := List.getElem?_eq_getElem hl
    rw [loopC_one (by rw [hn]; exact hit _ _ hx) (h _ (List.getElem_mem hl)) (by omega), ih _ (by omega) ?_]
    · have e : xs.drop (xs.length - (r + 1)) = xs[xs.length - (r + 1)] :: xs.drop (xs.length - r) := by
        rw [List.drop_eq_getElem_cons hl, show xs.length - (r + 1) + 1 = xs.length - r by omega]
      rw [e, List.filter_cons]
      cases p (xs[xs.length - (r + 1)]) <;> simp
    · rw [List.length_append]
      split <;> simp <;> omega
theorem eLc_pure {α : Type} {inj : α → D} {p : α → Bool} {out : α → D} {fs : Env → Out Src} {env e0 env' : Env} {xs : List α} (hs : fs env = .val s e0) (hw : wipable e0 vs = true) (he : wipeE e0 vs = env') (hok : s.ok env' = true) (hn : s.n = xs.length) (hit : ∀ i x, xs[i]? = some x → s.it env' i = some (inj x))
    (h : ∀ x ∈ xs, oneC g ft fe vs (inj x) env' = some (if p x then some (out x) else none, env')) (hz : xs.length ≤ sizeLine) :
    eLc fs g ft fe vs env = .val (.new (.lst ((xs.filter p).map out))) env' := by
  unfold eLc
  rw [hs]
  show (if wipable e0 vs = true then _ else _) = _
  rw [if_pos hw, he, hn, loopC_pure hok hn hit h xs.length [] (Nat.le_refl _) (by simpa using hz)]
  simp
theorem loopC_map {α : Type} {inj : α → D} {out : α → D} {env : Env} (hok : s.ok env = true) {xs : List α} (hn : s.n = xs.length) (hit : ∀ i x, xs[i]? = some x → s.it env i = some (inj x))
    (h : ∀ x ∈ xs, oneC g ft fe vs (inj x) env = some (some (out x), env)) (hz : xs.length ≤ sizeLine) : loopC s g ft fe vs xs.length [] env = .val (.new (.lst (xs.map out))) env := by
  have := loopC_pure (p := fun _ => true) hok hn hit (fun x hx => by simpa using h x hx) xs.length [] (Nat.le_refl _) (by simpa using hz)
  have e : xs.filter (fun _ => true) = xs := List.filter_eq_self.mpr fun _ _ => rfl
  simpa [e] using this
theorem eLc_map {α : Type} {inj : α → D} {out : α → D} {fs : Env → Out Src} {env e0 env' : Env} {xs : List α} (hs : fs env = .val s e0) (hw : wipable e0 vs = true) (he : wipeE e0 vs = env') (hok : s.ok env' = true) (hn : s.n = xs.length) (hit : ∀ i x, xs[i]? = some x → s.it env' i = some (inj x))
    (h : ∀ x ∈ xs, oneC g ft fe vs (inj x) env' = some (some (out x), env')) (hz : xs.length ≤ sizeLine) :
    eLc fs g ft fe vs env = .val (.new (.lst (xs.map out))) env' := by
  have := eLc_pure (p := fun _ => true) hs hw he hok hn hit (fun x hx => by simpa using h x hx) hz
  have e : xs.filter (fun _ => true) = xs := List.filter_eq_self.mpr fun _ _ => rfl
  simpa [e] using this
end

/-! ### a for loop -/
section
variable {s : Src} {g : EV → Env → OutS} {F : Env → OutS}
theorem loopF_next {r : Nat} {env e : Env} {d : D} (h1 : s.it env (s.n - (r + 1)) = some d) (h2 : (g (.dat d) env).bind F = .next e) : loopF s g F (r + 1) env = loopF s g F r e := by
  rw [loopF, h1]
  simp only [h2]
theorem loopF_ret {r : Nat} {env e : Env} {d : D} {v : EV} (h1 : s.it env (s.n - (r + 1)) = some d) (h2 : (g (.dat d) env).bind F = .ret v e) : loopF s g F (r + 1) env = .ret v e := by
  rw [loopF, h1]
  simp only [h2]
/-- a for loop, by what holds between two turns -/
theorem loopF_inv {I : Nat → Env → Prop} (hok : ∀ env, I s.n env → s.ok env = true)
    (step : ∀ i env, i < s.n → I i env → ∃ d env', s.it env i = some d ∧ (g (.dat d) env).bind F = .next env' ∧ I (i + 1) env') :
    ∀ (r : Nat) (env : Env), r ≤ s.n → I (s.n - r) env → ∃ env', loopF s g F r env = .next env' ∧ I s.n env' := by
  intro r
  induction r with
  | zero =>
    intro env _ h
    refine ⟨env, ?_, by simpa using h⟩
    rw [loopF, if_pos (hok env (by simpa using h))]
  | succ r ih =>
    intro env hr h
    obtain ⟨d, env', h1, h2, h4⟩ := step _ env (by omega) h
    rw [loopF_next h1 h2]
    exact ih _ (by omega) (by rw [show s.n - r = s.n - (r + 1) + 1 by omega]; exact h4)
theorem sFor_inv {fs : Env → Out Src} {I : Nat → Env → Prop} {env e0 : Env} (hs : fs env = .val s e0) (h0 : I 0 e0) (hok : ∀ env, I s.n env → s.ok env = true)
    (step : ∀ i env, i < s.n → I i env → ∃ d env', s.it env i = some d ∧ (g (.dat d) env).bind F = .next env' ∧ I (i + 1) env') :
    ∃ env', sFor fs g F env = .next env' ∧ I s.n env' := by
  obtain ⟨env', h1, h2⟩ := loopF_inv hok step s.n e0 (Nat.le_refl _) (by rw [Nat.sub_self]; exact h0)
  refine ⟨env', ?_, h2⟩
  unfold sFor
  rw [hs]
  exact h1
/-- a for loop that may hand back -/
theorem loopF_inv2 {I : Nat → Env → Prop} {R : EV → Env → Prop} (hok : ∀ env, I s.n env → s.ok env = true)
    (step : ∀ i env, i < s.n → I i env → ∃ d, s.it env i = some d ∧ ((∃ env', (g (.dat d) env).bind F = .next env' ∧ I (i + 1) env') ∨ (∃ v env', (g (.dat d) env).bind F = .ret v env' ∧ R v env'))) :
    ∀ (r : Nat) (env : Env), r ≤ s.n → I (s.n - r) env → (∃ env', loopF s g F r env = .next env' ∧ I s.n env') ∨ (∃ v env', loopF s g F r env = .ret v env' ∧ R v env') := by
  intro r
  induction r with
  | zero =>
    intro env _ h
    refine .inl ⟨env, ?_, by simpa using h⟩
    rw [loopF, if_pos (hok env (by simpa using h))]
  | succ r ih =>
    intro env hr h
    obtain ⟨d, h1, ⟨env', h2, h4⟩ | ⟨v, env', h2, h4⟩⟩ := step _ env (by omega) h
    · rw [loopF_next h1 h2]
      exact ih _ (by omega) (by rw [show s.n - r = s.n - (r + 1) + 1 by omega]; exact h4)
    · exact .inr ⟨v, env', loopF_ret h1 h2, h4⟩
theorem sFor_inv2 {fs : Env → Out Src} {I : Nat → Env → Prop} {R : EV → Env → Prop} {env e0 : Env} (hs : fs env = .val s e0) (h0 : I 0 e0) (hok : ∀ env, I s.n env → s.ok env = true)
    (step : ∀ i env, i < s.n → I i env → ∃ d, s.it env i = some d ∧ ((∃ env', (g (.dat d) env).bind F = .next env' ∧ I (i + 1) env') ∨ (∃ v env', (g (.dat d) env).bind F = .ret v env' ∧ R v env'))) :
    (∃ env', sFor fs g F env = .next env' ∧ I s.n env') ∨ (∃ v env', sFor fs g F env = .ret v env' ∧ R v env') := by
  have := loopF_inv2 hok step s.n e0 (Nat.le_refl _) (by rw [Nat.sub_self]; exact h0)
  unfold sFor
  rw [hs]
  exact this
/-- a while loop: m falls -/
theorem loopW_inv {ft : Env → Out Bool} {I : Nat → Env → Prop} {R : Env → Prop} {Z : EV → Env → Prop}
    (step : ∀ m env, I m env → (∃ e, ft env = .val false e ∧ R e) ∨ (∃ e, ft env = .val true e ∧ ((∃ m' e', F e = .next e' ∧ m' < m ∧ I m' e') ∨ (∃ v e', F e = .ret v e' ∧ Z v e')))) :
    ∀ (fuel m : Nat) (env : Env), m < fuel → I m env → (∃ e, loopW ft F fuel env = .next e ∧ R e) ∨ (∃ v e, loopW ft F fuel env = .ret v e ∧ Z v e) := by
  intro fuel
  induction fuel with
  | zero => intro m env h; omega
  | succ fuel ih =>
    intro m env hm h
    rw [loopW]
    rcases step m env h with ⟨e, h1, h2⟩ | ⟨e, h1, ⟨m', e', h2, h3, h4⟩ | ⟨v, e', h2, h3⟩⟩
    · rw [h1]
      exact .inl ⟨e, rfl, h2⟩
    · rw [h1]
      simp only [Out.toS_val, if_true, h2]
      exact ih m' e' (by omega) h4
    · rw [h1]
      simp only [Out.toS_val, if_true, h2]
      exact .inr ⟨v, e', rfl, h3⟩
end

/-! ### sources and cuts -/
@[simp] theorem datS_n (ds : List D) : (datS ds).n = ds.length := rfl
@[simp] theorem datS_ok (ds : List D) (env : Env) : (datS ds).ok env = true := rfl
@[simp] theorem datS_it (ds : List D) (env : Env) (i : Nat) : (datS ds).it env i = ds[i]? := rfl
@[simp] theorem rngS_n (lo : Int) (n : Nat) : (rngS lo n).n = n := rfl
@[simp] theorem rngS_ok (lo : Int) (n : Nat) (env : Env) : (rngS lo n).ok env = true := rfl
@[simp] theorem rngS_it (lo : Int) (n : Nat) (env : Env) (i : Nat) : (rngS lo n).it env i = some (.int (lo + (i : Nat))) := rfl
@[simp] theorem enS_n (s : Src) : (enS s).n = s.n := rfl
@[simp] theorem enS_ok (s : Src) (env : Env) : (enS s).ok env = s.ok env := rfl
@[simp] theorem enS_it (s : Src) (env : Env) (i : Nat) : (enS s).it env i = (s.it env i).map fun d => .prs [.int (i : Nat), d] := rfl
theorem in62_nat {n : Nat} (h : n < 4611686018427387904) : in62 (n : Int) = true := by
  exact decide_eq_true (by omega)
theorem mulOk_l {i j : Int} (h : i.natAbs < 18446744073709551616) : mulOk i j = true := by
  unfold mulOk
  rw [Bool.or_eq_true]
  exact .inl (decide_eq_true h)
theorem mulOk_r {i j : Int} (h : j.natAbs < 18446744073709551616) : mulOk i j = true := by
  unfold mulOk
  rw [Bool.or_eq_true]
  exact .inr (decide_eq_true h)
theorem srcR1_nat {fa : Env → Out (List EV)} {env e1 : Env} {as : List EV} {n : Nat} (h1 : fa env = .val as e1) (h2 : conts e1 as = some [.int (n : Int)]) (h : n < 4611686018427387904) : srcR1 fa env = .val (rngS 0 n) e1 := by
  unfold srcR1
  rw [h1]
  show (match conts e1 as with
    | some [.int j] => if in62 j then Out.val (rngS 0 j.toNat) e1 else .stuck
    | _ => .stuck) = _
  rw [h2]
  show (if in62 (n : Int) then _ else _) = _
  rw [if_pos (in62_nat h), Int.toNat_natCast]
theorem srcR2_nat {fa : Env → Out (List EV)} {env e1 : Env} {as : List EV} {m n : Nat} (h1 : fa env = .val as e1) (h2 : conts e1 as = some [.int (m : Int), .int (n : Int)]) (h : n < 4611686018427387904) (h' : m < 4611686018427387904) : srcR2 fa env = .val (rngS (m : Int) (n - m)) e1 := by
  unfold srcR2
  rw [h1]
  show (match conts e1 as with
    | some [.int i, .int j] => if in62 i && in62 j then Out.val (rngS i (j - i).toNat) e1 else .stuck
    | _ => .stuck) = _
  rw [h2]
  show (if in62 (m : Int) && in62 (n : Int) then _ else _) = _
  rw [in62_nat h, in62_nat h', Bool.and_true, if_pos rfl, show ((n : Int) - (m : Int)).toNat = n - m by omega]
theorem cutD_from (xs : List D) (k : Nat) : cutD xs (some (k : Int)) none = xs.drop k := by
  unfold cutD
  rw [HT.sIx_nat, HT.sIx_none]
  by_cases h : k ≤ xs.length
  · rw [Nat.min_eq_left h, List.take_of_length_le (by simp)]
  · rw [Nat.min_eq_right (by omega), List.drop_eq_nil_of_le (Nat.le_refl _), List.drop_eq_nil_of_le (by omega)]
    simp
theorem cutD_to (xs : List D) (k : Nat) : cutD xs none (some (k : Int)) = xs.take k := by
  unfold cutD
  rw [HT.sIx_nat, HT.sIx_none, List.drop_zero, Nat.sub_zero]
  by_cases h : k ≤ xs.length
  · rw [Nat.min_eq_left h]
  · rw [Nat.min_eq_right (by omega), List.take_of_length_le (Nat.le_refl _), List.take_of_length_le (by omega)]
theorem cutD_mid (xs : List D) (i j : Nat) : cutD xs (some (i : Int)) (some (j : Int)) = (xs.drop i).take (j - i) := by
  unfold cutD
  rw [HT.sIx_nat, HT.sIx_nat]
  by_cases h : i ≤ xs.length
  · rw [Nat.min_eq_left h]
    by_cases h2 : j ≤ xs.length
    · rw [Nat.min_eq_left h2]
    · rw [Nat.min_eq_right (by omega), List.take_of_length_le (by simp), List.take_of_length_le (by simp; omega)]
  · have e1 : xs.drop (min i xs.length) = [] := List.drop_eq_nil_of_le (by omega)
    have e2 : xs.drop i = [] := List.drop_eq_nil_of_le (by omega)
    rw [e1, e2]
    simp
/-! ### a dict of texts -/
def mk (ks : List Str) (f : Str → D) : List (Key × D) := ks.map fun k => (.inr k, f k)
def upd1 {β : Type} (f : Str → β) (k : Str) (d : β) : Str → β := fun x => if x = k then d else f x
theorem mk_length (ks : List Str) (f : Str → D) : (mk ks f).length = ks.length := by simp [mk]
theorem valD_mk (ks : List Str) (f : Str → D) (k : Str) : valD (mk ks f) (.inr k) = if k ∈ ks then some (f k) else none := by
  unfold valD mk
  induction ks with
  | nil => rfl
  | cons a r ih =>
    rw [List.map_cons, List.find?_cons]
    by_cases h : a = k
    · subst h
      simp
    · have h2 : ¬ (Sum.inr a : Key) = .inr k := fun z => h (Sum.inr.inj z)
      have h3 : ¬ k = a := fun z => h z.symm
      simp only [h2, decide_false]
      rw [ih]
      simp [h3]
theorem putD_mk (ks : List Str) (f : Str → D) (k : Str) (d : D) : putD (mk ks f) (.inr k) d = mk (if k ∈ ks then ks else ks ++ [k]) (upd1 f k d) := by
  unfold putD
  have h : (mk ks f).any (fun kv => decide (kv.1 = .inr k)) = decide (k ∈ ks) := by
    unfold mk
    induction ks with
    | nil => simp
    | cons a r ih =>
      rw [List.map_cons, List.any_cons, ih]
      have : (decide ((Sum.inr a : Key) = .inr k)) = decide (a = k) := by
        by_cases h : a = k
        · subst h
          simp
        · have h2 : ¬ (Sum.inr a : Key) = .inr k := fun z => h (Sum.inr.inj z)
          simp [h, h2]
      simp only [this]
      by_cases h : a = k
      · simp [h]
      · have h3 : ¬ k = a := fun z => h z.symm
        simp [h, h3]
  rw [h]
  by_cases hk : k ∈ ks
  · rw [if_pos (by simpa using hk), if_pos hk]
    unfold mk
    rw [List.map_map]
    refine List.map_congr_left fun a _ => ?_
    by_cases e : a = k
    · subst e
      simp [upd1]
    · have h2 : ¬ (Sum.inr a : Key) = .inr k := fun z => e (Sum.inr.inj z)
      simp [upd1, e, h2]
  · rw [if_neg (by simpa using hk), if_neg hk]
    unfold mk
    rw [List.map_append]
    congr 1
    · refine List.map_congr_left fun a ha => ?_
      have e : ¬ a = k := fun z => hk (z ▸ ha)
      simp [upd1, e]
    · simp [upd1]

/-! ### the combinators, applied -/
section ap
variable {F G : Env → OutS} {env : Env} {i j n np : Nat} {d : D} {fa fb fc fe fo fi fk fx fd : Env → Out EV} {fs : Env → Out (List EV)} {ft fu : Env → Out Bool} {g : D → D → Option EV} {g1 : D → Option EV} {gl : List D → Option EV}
theorem sSeq_ap : sSeq F G env = (F env).bind G := rfl
theorem sNext_ap : sNext env = .next env := rfl
theorem sIf_ap : sIf ft F G env = (ft env).toS fun b e => if b then F e else G e := rfl
theorem sAsg_ap {h : EV → Env → OutS} : sAsg fa h env = (fa env).toS h := rfl
theorem gN_ap {ev : EV} : gN i ev env = OutS.of (assign env i ev) := rfl
theorem sRet_ap : sRet fa env = (fa env).toS fun ev e => handOut e ev := rfl
theorem eVar_ap : eVar i env = (match env[i]? with
  | some (.imm d) => .val (.dat d) env
  | some (.fpar d) => .val (.dat d) env
  | some (.own _) => .val (.slot i) env
  | some (.par _) => .val (.slot i) env
  | _ => .stuck) := rfl
theorem eC_ap : eC d env = .val (.dat d) env := rfl
theorem settled_ap : settled fa env = (fa env).bind fun ev e => .val (settle ev) e := rfl
theorem eOp_ap : eOp g fa fb env = (fa env).bind fun a e1 => (fb e1).bind fun b e2 => Out.of ((cont e2 a).bind fun x => (cont e2 b).bind fun y => g x y) e2 := rfl
theorem eUn_ap : eUn g1 fa env = (fa env).bind fun a e1 => Out.of ((cont e1 a).bind g1) e1 := rfl
theorem aNil_ap : aNil env = .val [] env := rfl
theorem aCons_ap : aCons fa fs env = (fa env).bind fun a e1 => (fs e1).bind fun as e2 => .val (a :: as) e2 := rfl
theorem eTup_ap : eTup fs env = (fs env).bind fun as e1 => (Out.of (freezes e1 as) e1).bind fun x _ => if small x.1.length then .val (.dat (.tup x.1)) x.2 else .stuck := rfl
theorem eLst_ap : eLst fs env = (fs env).bind fun as e1 => (Out.of (freezes e1 as) e1).bind fun x _ => if small x.1.length then .val (.new (.lst x.1)) x.2 else .stuck := rfl
theorem eDic_ap : eDic env = .val (.new (.dic [])) env := rfl
theorem eCB_ap : eCB gl fs env = (fs env).bind fun as e1 => Out.of ((conts e1 as).bind gl) e1 := rfl
theorem bTr_ap : bTr fa env = (fa env).bind fun a e1 => Out.of ((cont e1 a).bind truD) e1 := rfl
theorem bBl_ap : bBl fa env = (fa env).bind fun a e1 => Out.of ((cont e1 a).bind blD) e1 := rfl
theorem bAnd_ap : bAnd ft fu env = (ft env).bind fun a e1 => if a then fu e1 else .val false e1 := rfl
theorem bOr_ap : bOr ft fu env = (ft env).bind fun a e1 => if a then .val true e1 else fu e1 := rfl
theorem bNot_ap : bNot ft env = (ft env).bind fun a e1 => .val (!a) e1 := rfl
theorem eIf_ap : eIf ft fa fb env = (ft env).bind fun b e1 => if b then fa e1 else fb e1 := rfl
theorem eAnd_ap : eAnd fa fb env = (fa env).bind fun a e1 => (Out.of ((cont e1 a).bind blD) e1).bind fun b e2 => if b then fb e2 else .val (.dat (.bl false)) e2 := rfl
theorem eOr_ap : eOr fa fb env = (fa env).bind fun a e1 => (Out.of ((cont e1 a).bind blD) e1).bind fun b e2 => if b then .val (.dat (.bl true)) e2 else fb e2 := rfl
theorem eNot_ap : eNot fa env = (fa env).bind fun a e1 => (Out.of ((cont e1 a).bind blD) e1).bind fun b e2 => .val (.dat (.bl (!b))) e2 := rfl
theorem eCall_ap {Ff : List Slot → OutF} : eCall np Ff fs env = (fs env).bind fun as e1 => callF np Ff as e1 := rfl
theorem sPar_ap : sPar i j fs env = (fs env).toS fun as e1 => match freezes e1 as with
  | some ([x, y], e2) => OutS.of ((put e2 i (.imm x)).bind fun e3 => put e3 j (.imm y))
  | _ => .stuck := rfl
theorem sPar2_ap : sPar2 i j fa fb env = (fa env).toS fun a e1 => match a with
  | .new d => (match fb e1 with
    | .val (.new d2) e2 => OutS.of ((put e2 i (.own d)).bind fun e3 => put e3 j (.own d2))
    | .val (.dat d2) e2 => OutS.of ((put e2 i (.own d)).bind fun e3 => put e3 j (.imm d2))
    | _ => .stuck)
  | .dat d => (fb e1).toS fun b e2 => (match b with
    | .new d2 => OutS.of ((put e2 i (.imm d)).bind fun e3 => put e3 j (.own d2))
    | .dat d2 => OutS.of ((put e2 i (.imm d)).bind fun e3 => put e3 j (.imm d2))
    | .slot _ => .stuck)
  | .slot _ => .stuck := rfl
theorem sSetL_ap : sSetL fe fo fi env = (fe env).toS (gSetL fo fi) := rfl
theorem gSetL_ap {ev : EV} : gSetL fo fi ev env = (match freeze env ev with
  | none => .stuck
  | some (d, env) => (fo env).toS fun o e1 => (fi e1).toS fun i e2 => OutS.of ((slotD o).bind fun j => (ownL e2 j).bind fun ds => (cont e2 i).bind intD |>.bind fun k => (ixN ds.length k).bind fun n => setOwn e2 j (.lst (ds.set n d)))) := rfl
theorem eM1_ap : eM1 g fo fe env = (fo env).bind fun o e1 => (Out.of ((cont e1 o).bind strD) e1).bind fun _ e1 => (fe e1).bind fun a e2 => Out.of ((cont e2 o).bind fun x => (cont e2 a).bind fun y => g x y) e2 := rfl
theorem eMT_ap : eMT g fo fe env = (fo env).bind fun o e1 => (Out.of ((cont e1 o).bind tupD) e1).bind fun _ e1 => (fe e1).bind fun a e2 => Out.of ((cont e2 o).bind fun x => (cont e2 a).bind fun y => g x y) e2 := rfl
theorem eSl_ap {fl fh : Env → Out (Option Int)} : eSl fe fl fh env = (fe env).bind fun a e1 => (fl e1).bind fun lo e2 => (fh e2).bind fun hi e3 => Out.of ((cont e3 a).bind fun d => gSl d lo hi) e3 := rfl
theorem oNone_ap : oNone env = .val none env := rfl
theorem oPart_ap : oPart fe env = (fe env).bind fun ev e1 => Out.of (((cont e1 ev).bind intD).map some) e1 := rfl
theorem eBmL_ap {gm : List D → List D → Option (List D × D)} : eBmL gm fo fs env = (fo env).bind fun o e1 => (Out.of ((slotD o).bind fun i => (ownL e1 i).map fun _ => i) e1).bind fun i e1 => (fs e1).bind fun as e2 =>
  (Out.of (freezes e2 as) e2).bind fun x _ => Out.bind (Out.of ((ownL x.2 i).bind fun ds => (gm ds x.1).bind fun y => (setOwn x.2 i (.lst y.1)).map fun e4 => (y.2, e4)) x.2) fun z _ => .val (.dat z.1) z.2 := rfl
theorem eBmD_ap {gm : List (Key × D) → List D → Option (List (Key × D) × D)} : eBmD gm fo fs env = (fo env).bind fun o e1 => (Out.of ((slotD o).bind fun i => (ownD e1 i).map fun _ => i) e1).bind fun i e1 => (fs e1).bind fun as e2 =>
  (Out.of (freezes e2 as) e2).bind fun x _ => Out.bind (Out.of ((ownD x.2 i).bind fun ds => (gm ds x.1).bind fun y => (setOwn x.2 i (.dic y.1)).map fun e4 => (y.2, e4)) x.2) fun z _ => .val (.dat z.1) z.2 := rfl
theorem eDGet2_ap : eDGet2 fd fk fx env = (fd env).bind fun d e1 => (Out.of ((cont e1 d).bind dicD) e1).bind fun _ e1 => (fk e1).bind fun k e2 => (fx e2).bind fun x e3 => (Out.of (freeze e3 x) e3).bind fun y _ =>
    Out.of ((cont y.2 d).bind dicD |>.bind fun kvs => (cont y.2 k).bind keyD |>.map fun k => (.dat ((valD kvs k).getD y.1))) y.2 := rfl
theorem sPut_ap : sPut fd fk fe env = (fe env).toS fun v e0 => match freeze e0 v with
  | none => .stuck
  | some (dv, e0) => (fd e0).toS fun d e1 => (fk e1).toS fun k e2 => OutS.of ((slotD d).bind fun j => (ownD e2 j).bind fun kvs => (cont e2 k).bind keyD |>.bind fun key => if kvs.length < sizeLine then setOwn e2 j (.dic (putD kvs key dv)) else none) := rfl
theorem eSetd_ap : eSetd fd fk fx env = (fd env).bind fun d e1 => (Out.of ((slotD d).bind fun j => (ownD e1 j).map fun _ => j) e1).bind fun j e1 => (fk e1).bind fun k e2 => (fx e2).bind fun x e3 => (Out.of (freeze e3 x) e3).bind fun y _ =>
    Out.bind (Out.of ((ownD y.2 j).bind fun kvs => (cont y.2 k).bind keyD |>.bind fun key => if kvs.length < sizeLine then (match valD kvs key with
      | some d => some (d, y.2)
      | none => (setOwn y.2 j (.dic (putD kvs key y.1))).map fun e4 => (y.1, e4)) else none) y.2) fun z _ => .val (.dat z.1) z.2 := rfl
theorem sRaise_ap {x : Str} {fl : List Str} : sRaise x fl fs env = (fs env).toS fun as e1 => match freezes e1 as with
  | some (ds, e2) => if ds.length = fl.length ∧ ds.length ≤ 1000 then .exc x (some (fl.zip ds).reverse) e2 else .stuck
  | none => .stuck := rfl
theorem eChain_ap {g' : D → D → Option EV} : eChain g g' fa fb fc env = (fa env).bind fun a e1 => (fb e1).bind fun b e2 =>
  (Out.of ((cont e2 a).bind fun x => (cont e2 b).bind fun y => g x y) e2).bind fun z e3 => (Out.of ((cont e3 z).bind blD) e3).bind fun k e4 => if k then (fc e4).bind fun w e5 => Out.of ((cont e5 b).bind fun y => (cont e5 w).bind fun z => g' y z) e5 else .val (.dat (.bl false)) e4 := rfl
theorem eCBK_ap {gk : List D → List D → Option EV} {fs2 : Env → Out (List EV)} : eCBK gk fs fs2 env = (fs env).bind fun as e1 => (fs2 e1).bind fun ks e2 => Out.of ((conts e2 as).bind fun ds => (conts e2 ks).bind fun es => gk ds es) e2 := rfl
theorem gT_ap {gs : List D → Env → OutS} {ev : EV} : gT n gs ev env = (match cont env ev with
  | some (.tup ds) => if ds.length = n then gs ds env else .stuck
  | some (.prs ds) => if ds.length = n then gs ds env else .stuck
  | _ => .stuck) := rfl
theorem gsNil_ap : gsNil [] env = .next env := rfl
theorem gsCons_ap {f : EV → Env → OutS} {gs : List D → Env → OutS} {d : D} {r : List D} : gsCons f gs (d :: r) env = (f (.dat d) env).bind (gs r) := rfl
theorem sm0 : small 0 = true := by decide
theorem sm1 : small 1 = true := by decide
theorem sm2 : small 2 = true := by decide
theorem sm3 : small 3 = true := by decide
theorem sm4 : small 4 = true := by decide
theorem sm5 : small 5 = true := by decide
theorem srcV_ap : srcV fe env = (fe env).bind fun ev e1 => srcOf e1 ev := rfl
theorem srcE_ap : srcE fs env = (fs env).bind fun as e1 => match as with
  | [ev] => (srcOf e1 ev).bind fun s e2 => .val (enS s) e2
  | _ => .stuck := rfl
theorem srcZ_ap : srcZ fs env = (fs env).bind fun as e1 => match as with
  | [ev, ev'] => (srcOf e1 ev).bind fun s e2 => (srcOf e2 ev').bind fun s' e3 => .val (ziS s s') e3
  | _ => .stuck := rfl
end ap
end DL

/-! P2: slots that nobody looks at -/
namespace DL
open PySem L2 PySem.Spec PyProof.Rows
def okz : Slot → Bool
  | .par _ => false
  | .fpar _ => false
  | _ => true
def wiz : Slot → Bool
  | .no => true
  | .imm _ => true
  | _ => false
@[simp] theorem okz_no : okz .no = true := rfl
@[simp] theorem okz_imm (d : D) : okz (.imm d) = true := rfl
@[simp] theorem okz_own (d : D) : okz (.own d) = true := rfl
@[simp] theorem wiz_no : wiz .no = true := rfl
@[simp] theorem wiz_imm (d : D) : wiz (.imm d) = true := rfl
theorem wiz_okz {z : Slot} (h : wiz z = true) : okz z = true := by cases z <;> first | rfl | cases h
theorem put_eq {env : Env} {i : Nat} {s : Slot} : put env i s = if (env[i]?.any okz) = true then some (env.set i s) else none := by
  unfold put storable
  cases h : env[i]? with
  | none => rfl
  | some z => cases z <;> rfl
theorem wip_eq {env : Env} {vs : List Nat} : wipable env vs = vs.all fun v => env[v]?.any wiz := by
  unfold wipable
  congr 1
  funext v
  cases h : env[v]? with
  | none => rfl
  | some z => cases z <;> rfl
theorem bs_none {as : List EV} {args' : List Slot} {j : Nat} {s : Slot} (h : as.findIdx? (isSlot j) = none) : backSlot as args' j s = s := by
  unfold backSlot
  rw [h]
  cases s <;> rfl
theorem bs_own {as : List EV} {args' : List Slot} {j : Nat} {d : D} : backSlot as args' j (.own d) = (match as.findIdx? (isSlot j) with
    | some k => match args'[k]? with
      | some (.par d') => .own d'
      | some (.fpar d') => .imm d'
      | _ => .own d
    | none => .own d) := rfl
theorem bs_par {as : List EV} {args' : List Slot} {j : Nat} {d : D} : backSlot as args' j (.par d) = (match as.findIdx? (isSlot j) with
    | some k => match args'[k]? with
      | some (.par d') => .par d'
      | some (.fpar d') => .fpar d'
      | _ => .par d
    | none => .par d) := rfl
theorem bs_imm {as : List EV} {args' : List Slot} {j : Nat} {d : D} : backSlot as args' j (.imm d) = .imm d := rfl
theorem bs_no {as : List EV} {args' : List Slot} {j : Nat} : backSlot as args' j .no = .no := rfl
end DL

/-! N1: texts, plainly: names, and splitting what was joined -/
namespace DL
open PySem L2 PySem.Spec PyProof.Rows
/-! ### names -/
def low (c : Nat) : Bool := decide (97 ≤ c) && decide (c ≤ 122)
def nmS (x : Str) : Bool := decide (1 ≤ x.length) && decide (x.length ≤ 8) && x.cps.all low
theorem nmS_iff {x : Str} : nmS x = true ↔ 1 ≤ x.length ∧ x.length ≤ 8 ∧ ∀ c ∈ x.cps.toList, low c = true := by
  unfold nmS
  rw [Bool.and_eq_true, Bool.and_eq_true, decide_eq_true_eq, decide_eq_true_eq, Array.all_eq_true_iff_forall_mem, and_assoc]
  simp
theorem low_tab : ∀ c : Nat, c < 128 → (Unicode.isAlpha c && !(Unicode.isUpper c || Unicode.isTitle c)) = low c ∧ (low c = true → Unicode.isLower c = true) := by decide +kernel
theorem is_name_eq (x : Str) : (decide (x.length ≤ 8) && (Txt.isascii x && (Txt.isalpha x && Txt.islower x))) = nmS x := by
  rw [Bool.eq_iff_iff, nmS_iff]
  simp only [Bool.and_eq_true, decide_eq_true_eq, Txt.isascii, Txt.isalpha, Txt.islower, Array.all_eq_true_iff_forall_mem, Array.any_eq_true, Bool.not_eq_true']
  constructor
  · rintro ⟨h1, h2, ⟨h3, h4⟩, h5, h6⟩
    refine ⟨by have h3 : 0 < x.length := by simpa using h3
               omega, h1, fun c hc => ?_⟩
    have hc : c ∈ x.cps := by simpa using hc
    have hl := h2 c hc
    have hl : c < 128 := by simpa using hl
    rw [← (low_tab c hl).1, h4 c hc, Bool.true_and, Bool.not_eq_true']
    rw [Array.any_eq_false] at h6
    obtain ⟨i, hi, rfl⟩ := Array.mem_iff_getElem.mp hc
    simpa using h6 i hi
  · rintro ⟨h1, h2, h3⟩
    have hlow : ∀ c ∈ x.cps, low c = true := fun c hc => h3 c (by simpa using hc)
    have hlt : ∀ c ∈ x.cps, c < 128 := fun c hc => by
      have := hlow c hc
      simp [low] at this
      omega
    refine ⟨h2, fun c hc => by simpa using hlt c hc, ⟨?_, fun c hc => ?_⟩, ⟨0, h1, ?_⟩, ?_⟩
    · have h4 : 0 < x.length := h1
      simpa using h4
    · have := (low_tab c (hlt c hc)).1
      rw [hlow c hc, Bool.and_eq_true] at this
      exact this.1
    · exact (low_tab _ (hlt _ (Array.getElem_mem h1))).2 (hlow _ (Array.getElem_mem h1))
    · rw [Array.any_eq_false]
      intro i hi
      have := (low_tab _ (hlt _ (Array.getElem_mem hi))).1
      rw [hlow _ (Array.getElem_mem hi), Bool.and_eq_true, Bool.not_eq_true'] at this
      rw [this.2]
      simp
/-! ### joined and split -/
def jl (sep : List Nat) : List (List Nat) → List Nat
  | [] => []
  | [a] => a
  | a :: b :: r => a ++ sep ++ jl sep (b :: r)
theorem join_cps (sep : Str) : ∀ ps : List Str, (Str.join sep ps).cps.toList = jl sep.cps.toList (ps.map fun p => p.cps.toList)
  | [] => rfl
  | [a] => rfl
  | a :: b :: r => by
    have ih := join_cps sep (b :: r)
    show ((a ++ sep ++ Str.join sep (b :: r)).cps).toList = _
    rw [Str.cps_append, Str.cps_append, Array.toList_append, Array.toList_append, ih]
    rfl
theorem pre_uniq {c : Nat} : ∀ {a b X Y : List Nat}, c ∉ a → c ∉ b → a ++ c :: X = b ++ c :: Y → a = b ∧ X = Y
  | [], [], X, Y, _, _, h => by
    simp at h
    exact ⟨rfl, h⟩
  | [], y :: b, X, Y, _, hb, h => by
    simp at h
    exact absurd (by simp [h.1]) hb
  | x :: a, [], X, Y, ha, _, h => by
    simp at h
    exact absurd (by simp [h.1]) ha
  | x :: a, y :: b, X, Y, ha, hb, h => by
    simp at h ha hb
    obtain ⟨h1, h2⟩ := h
    obtain ⟨h3, h4⟩ := pre_uniq ha.2 hb.2 h2
    exact ⟨by rw [h1, h3], h4⟩
theorem jl_inj {c : Nat} {s : List Nat} : ∀ {A B : List (List Nat)}, A ≠ [] → B ≠ [] → (∀ a ∈ A, c ∉ a) → (∀ b ∈ B, c ∉ b) → jl (c :: s) A = jl (c :: s) B → A = B
  | [], _, h, _, _, _, _ => absurd rfl h
  | _, [], _, h, _, _, _ => absurd rfl h
  | [a], [b], _, _, _, _, h => by
    have h : a = b := h
    rw [h]
  | [a], b :: b2 :: r, _, _, ha, _, h => by
    have h : a = b ++ c :: s ++ jl (c :: s) (b2 :: r) := h
    exact absurd (by rw [h]; simp) (ha a (by simp))
  | a :: a2 :: r, [b], _, _, _, hb, h => by
    have h : a ++ c :: s ++ jl (c :: s) (a2 :: r) = b := h
    exact absurd (by rw [← h]; simp) (hb b (by simp))
  | a :: a2 :: r, b :: b2 :: r2, _, _, ha, hb, h => by
    have h : a ++ c :: s ++ jl (c :: s) (a2 :: r) = b ++ c :: s ++ jl (c :: s) (b2 :: r2) := h
    rw [List.append_assoc, List.append_assoc] at h
    obtain ⟨h1, h2⟩ := pre_uniq (ha a (by simp)) (hb b (by simp)) h
    have h2 := List.append_cancel_left h2
    rw [h1, jl_inj (A := a2 :: r) (B := b2 :: r2) (by simp) (by simp) (fun x hx => ha x (by simp [hx])) (fun x hx => hb x (by simp [hx])) h2]
theorem str_toList_inj {x y : Str} (h : x.cps.toList = y.cps.toList) : x = y := Str.ext' (Array.toList_inj.mp h)
theorem join_inj {sep : Str} {c : Nat} {s : List Nat} (hs : sep.cps.toList = c :: s) {A B : List Str} (hA : A ≠ []) (hB : B ≠ []) (ha : ∀ a ∈ A, c ∉ a.cps.toList) (hb : ∀ b ∈ B, c ∉ b.cps.toList) (h : Str.join sep A = Str.join sep B) : A = B := by
  have h2 := congrArg (fun z : Str => z.cps.toList) h
  simp only [join_cps, hs] at h2
  have := jl_inj (by simpa using hA) (by simpa using hB) (by simpa using ha) (by simpa using hb) h2
  clear h2 h ha hb hA hB
  induction A generalizing B with
  | nil =>
    cases B with
    | nil => rfl
    | cons b r => simp at this
  | cons a r ih =>
    cases B with
    | nil => simp at this
    | cons b r2 =>
      simp only [List.map_cons, List.cons.injEq] at this
      rw [str_toList_inj this.1, ih this.2]
theorem split_ne (x y : Str) : Txt.split x y ≠ [] := by
  unfold Txt.split
  split
  · simp
  · split
    · simp
    · rw [StrLaws.partsBetween_eq]
      obtain ⟨p, r, e⟩ := StrLaws.partsFrom_ne x y.length 0 (Builtin.Str.occurrences x y 0 x.length (x.length + 1))
      rw [e]
      simp
/-- split by one sign: what was joined -/
theorem split_one {c : Nat} {ps : List Str} (hne : ps ≠ []) (hf : ∀ p ∈ ps, c ∉ p.cps.toList) : Txt.split (Str.join ⟨#[c]⟩ ps) ⟨#[c]⟩ = ps :=
  join_inj (sep := ⟨#[c]⟩) (c := c) (s := []) rfl (split_ne _ _) hne (StrLaws.split_free _ _) hf (StrLaws.join_split _ _)
/-! two signs, of which the first stands in no part -/
def Foll (c e : Nat) (l : List Nat) : Prop := ∀ j : Nat, l[j]? = some c → l[j + 1]? = some e
theorem foll_jl {c e : Nat} (hce : e ≠ c) : ∀ {A : List (List Nat)}, (∀ a ∈ A, c ∉ a) → Foll c e (jl [c, e] A)
  | [], _, j, h => by simp [jl] at h
  | [a], ha, j, h => absurd (List.mem_of_getElem? h) (ha a (by simp))
  | a :: b :: r, ha, j, h => by
    have ih := foll_jl hce (A := b :: r) fun x hx => ha x (by simp [hx])
    have e1 : jl [c, e] (a :: b :: r) = a ++ (c :: e :: jl [c, e] (b :: r)) := by
      show a ++ [c, e] ++ jl [c, e] (b :: r) = _
      simp
    rw [e1] at h ⊢
    by_cases h1 : j < a.length
    · rw [List.getElem?_append_left h1] at h
      exact absurd (List.mem_of_getElem? h) (ha a (by simp))
    · rw [List.getElem?_append_right (by omega)] at h
      rw [List.getElem?_append_right (by omega)]
      have e2 : j + 1 - a.length = (j - a.length) + 1 := by omega
      rw [e2]
      match hk : j - a.length with
      | 0 => simp
      | 1 =>
        rw [hk] at h
        simp at h
        exact absurd h hce
      | k + 2 =>
        rw [hk] at h
        simp at h ⊢
        exact ih k h
theorem at_two {x : Str} {c e k : Nat} (h1 : x.cps.toList[k]? = some c) (h2 : x.cps.toList[k + 1]? = some e) : StrLaws.At x ⟨#[c, e]⟩ x.length k := by
  have hl := (List.getElem?_eq_some_iff.mp h2).1
  refine ⟨by show k + 2 ≤ x.length; simp at hl; unfold Str.length; omega, ?_⟩
  rw [StrLaws.subAt_eq]
  show ((x.cps.toList.drop k).take 2 == [c, e]) = true
  generalize x.cps.toList = l at *
  have hk := (List.getElem?_eq_some_iff.mp h1).1
  rw [List.drop_eq_getElem_cons hk, List.drop_eq_getElem_cons hl]
  have e1 := (List.getElem?_eq_some_iff.mp h1).2
  have e2 := (List.getElem?_eq_some_iff.mp h2).2
  simp [e1, e2]
theorem part_free2 {x : Str} {c e a b : Nat} (hF : Foll c e x.cps.toList) (hn : ∀ k, a ≤ k → k < b → ¬ StrLaws.At x ⟨#[c, e]⟩ x.length k) : c ∉ (Builtin.Str.strSub x a b).cps.toList := by
  intro hm
  rw [StrLaws.strSub_toList] at hm
  obtain ⟨j, hj⟩ := List.getElem?_of_mem hm
  have hlt : j < b - a := by
    have h1 : j < ((x.cps.toList.drop a).take (b - a)).length := (List.getElem?_eq_some_iff.mp hj).1
    simp at h1
    omega
  rw [List.getElem?_take_of_lt hlt, List.getElem?_drop] at hj
  exact hn (a + j) (by omega) (by omega) (at_two hj (hF _ hj))
theorem parts_free2 {x : Str} {c e : Nat} (hF : Foll c e x.cps.toList) : ∀ (cuts : List Nat) (a f : Nat), StrLaws.ChainG x ⟨#[c, e]⟩ x.length a cuts f → (∀ k, f ≤ k → ¬ StrLaws.At x ⟨#[c, e]⟩ x.length k) → ∀ p ∈ StrLaws.partsFrom x (⟨#[c, e]⟩ : Str).length a cuts, c ∉ p.cps.toList
  | [], a, f, h, hn, p, hp => by
    have e : f = a := h
    subst e
    rw [List.mem_singleton.mp hp]
    exact part_free2 hF fun k h1 _ => hn k h1
  | d :: r, a, f, h, hn, p, hp => by
    rcases List.mem_cons.mp hp with rfl | hp'
    · exact part_free2 hF h.2.2.1
    · exact parts_free2 hF r _ f h.2.2.2 hn p hp'
theorem split_free2 {x : Str} {c e : Nat} (hc : c < 256) (he : e < 256) (hF : Foll c e x.cps.toList) : ∀ p ∈ Txt.split x ⟨#[c, e]⟩, c ∉ p.cps.toList := by
  obtain ⟨f, hG, hn⟩ := StrLaws.occ_tight x ⟨#[c, e]⟩ (by show 1 ≤ 2; omega)
  have whole : (∀ k, ¬ StrLaws.At x ⟨#[c, e]⟩ x.length k) → c ∉ x.cps.toList := fun h hm => by
    obtain ⟨j, hj⟩ := List.getElem?_of_mem hm
    exact h j (at_two hj (hF j hj))
  unfold Txt.split
  split
  · rename_i hk
    intro p hp
    rw [List.mem_singleton.mp hp]
    intro hm
    obtain ⟨j, hj⟩ := List.getElem?_of_mem hm
    have h2 := (List.getElem?_eq_some_iff.mp (hF j hj)).1
    rw [Bool.or_eq_true, decide_eq_true_eq, decide_eq_true_eq] at hk
    rcases hk with h | h
    · have h : x.length < 2 := h
      have : x.cps.toList.length = x.length := by simp [Str.length]
      omega
    · have k1 : Builtin.Str.strKind ⟨#[c, e]⟩ ≤ Builtin.Str.strKind x := by
        have a1 : (#[c, e] : Array Nat).all (· < 256) = true := by simp [hc, he]
        unfold Builtin.Str.strKind
        simp only [a1, if_true]
        split
        · omega
        · split <;> omega
      omega
  · split
    · rename_i ho
      have hnil : Builtin.Str.occurrences x ⟨#[c, e]⟩ 0 x.length (x.length + 1) = [] := by simpa using ho
      rw [hnil] at hG
      have e0 : f = 0 := hG
      intro p hp
      rw [List.mem_singleton.mp hp]
      exact whole fun k => hn k (by omega)
    · rw [StrLaws.partsBetween_eq]
      exact parts_free2 hF _ 0 f hG hn
theorem split_two {c e : Nat} (hc : c < 256) (he : e < 256) (hce : e ≠ c) {ps : List Str} (hne : ps ≠ []) (hf : ∀ p ∈ ps, c ∉ p.cps.toList) : Txt.split (Str.join ⟨#[c, e]⟩ ps) ⟨#[c, e]⟩ = ps := by
  refine join_inj (sep := ⟨#[c, e]⟩) (c := c) (s := [e]) rfl (split_ne _ _) hne (split_free2 hc he ?_) hf (StrLaws.join_split _ _)
  rw [join_cps]
  exact foll_jl hce (by simpa using hf)
end DL

/-! N2: rows of bodies, as texts -/
namespace DL
open PySem L2 PySem.Spec PyProof.Rows
def tl (w : Str) : List Nat := w.cps.toList
theorem tl_app (a b : Str) : tl (a ++ b) = tl a ++ tl b := by
  unfold tl
  rw [Str.cps_append, Array.toList_append]
theorem tl_inj {a b : Str} (h : tl a = tl b) : a = b := str_toList_inj h
theorem tl_len (a : Str) : (tl a).length = a.length := by simp [tl, Str.length]
theorem cutS_to (w : Str) (k : Nat) : tl (cutS w none (some (k : Int))) = (tl w).take k := by
  have hl : (tl w).length = w.length := tl_len w
  show ((w.cps.toList.drop _).take _).toArray.toList = _
  rw [HT.sIx_none, HT.sIx_nat, List.drop_zero, Nat.sub_zero]
  show (tl w).take (min k w.length) = _
  rw [← hl]
  by_cases h : k ≤ (tl w).length
  · rw [Nat.min_eq_left h]
  · rw [Nat.min_eq_right (by omega), List.take_of_length_le (Nat.le_refl _), List.take_of_length_le (by omega)]
theorem cutS_from (w : Str) (k : Nat) : tl (cutS w (some (k : Int)) none) = (tl w).drop k := by
  have hl : (tl w).length = w.length := tl_len w
  show ((w.cps.toList.drop _).take _).toArray.toList = _
  rw [HT.sIx_none, HT.sIx_nat]
  show ((tl w).drop (min k w.length)).take (w.length - min k w.length) = _
  rw [← hl]
  by_cases h : k ≤ (tl w).length
  · rw [Nat.min_eq_left h, List.take_of_length_le (by simp)]
  · rw [Nat.min_eq_right (by omega), List.drop_eq_nil_of_le (Nat.le_refl _), List.drop_eq_nil_of_le (by omega)]
    simp
def blank : Str := ⟨#[32]⟩
theorem blank_eq : (" " : Str) = blank := by decide +kernel
def comma2 : Str := ⟨#[44, 32]⟩
theorem comma2_eq : (", " : Str) = comma2 := by decide +kernel
def rowOk (call : Str) : List Str → Bool
  | [a] => decide (a = "next")
  | [a, b] => if a = "say" then nmS b else (decide (a = "call") && (nmS b && ltS call b))
  | _ => false
def wRow (call w : Str) : Option (List Str) :=
  if w = "next" then some [("next" : Str)] else
  if cutS w none (some 4) = "say " ∧ nmS (cutS w (some 4) none) = true then some [("say" : Str), cutS w (some 4) none] else
  if cutS w none (some 5) = "call " ∧ nmS (cutS w (some 5) none) = true ∧ ltS call (cutS w (some 5) none) = true then some [("call" : Str), cutS w (some 5) none] else none
theorem nm_blank {b : Str} (h : nmS b = true) : 32 ∉ b.cps.toList := fun z => by
  have := (nmS_iff.mp h).2.2 32 z
  simp [low] at this
theorem nm_comma {b : Str} (h : nmS b = true) : 44 ∉ b.cps.toList := fun z => by
  have := (nmS_iff.mp h).2.2 44 z
  simp [low] at this
theorem t_next : tl "next" = [110, 101, 120, 116] := by decide +kernel
theorem t_say : tl "say" = [115, 97, 121] := by decide +kernel
theorem t_say4 : tl "say " = [115, 97, 121, 32] := by decide +kernel
theorem t_call : tl "call" = [99, 97, 108, 108] := by decide +kernel
theorem t_call5 : tl "call " = [99, 97, 108, 108, 32] := by decide +kernel
theorem t_blank : tl blank = [32] := rfl
theorem join2 (a b : Str) : Str.join blank [a, b] = a ++ blank ++ b := rfl
theorem cut_say {b : Str} : cutS ("say" ++ blank ++ b) none (some 4) = "say " ∧ cutS ("say" ++ blank ++ b) (some 4) none = b := by
  have e1 := cutS_to ("say" ++ blank ++ b) 4
  have e2 := cutS_from ("say" ++ blank ++ b) 4
  rw [tl_app, tl_app, t_say, t_blank] at e1 e2
  exact ⟨tl_inj (e1.trans (by rw [t_say4]; simp)), tl_inj (e2.trans (by simp))⟩
theorem cut_call {b : Str} : cutS ("call" ++ blank ++ b) none (some 5) = "call " ∧ cutS ("call" ++ blank ++ b) (some 5) none = b := by
  have e1 := cutS_to ("call" ++ blank ++ b) 5
  have e2 := cutS_from ("call" ++ blank ++ b) 5
  rw [tl_app, tl_app, t_call, t_blank] at e1 e2
  exact ⟨tl_inj (e1.trans (by rw [t_call5]; simp)), tl_inj (e2.trans (by simp))⟩
theorem say_of {w : Str} (h : cutS w none (some 4) = "say ") : w = "say" ++ blank ++ cutS w (some 4) none := by
  have e1 := cutS_to w 4
  have e2 := cutS_from w 4
  rw [show ((4 : Nat) : Int) = 4 from rfl] at e1 e2
  rw [h, t_say4] at e1
  refine tl_inj ?_
  rw [tl_app, tl_app, t_say, t_blank, e2]
  have := List.take_append_drop 4 (tl w)
  rw [← e1] at this
  rw [← this]
  simp
theorem call_of {w : Str} (h : cutS w none (some 5) = "call ") : w = "call" ++ blank ++ cutS w (some 5) none := by
  have e1 := cutS_to w 5
  have e2 := cutS_from w 5
  rw [show ((5 : Nat) : Int) = 5 from rfl] at e1 e2
  rw [h, t_call5] at e1
  refine tl_inj ?_
  rw [tl_app, tl_app, t_call, t_blank, e2]
  have := List.take_append_drop 5 (tl w)
  rw [← e1] at this
  rw [← this]
  simp
theorem ne_next {a b : Str} (ha : 32 ∉ tl a) : a ++ blank ++ b ≠ "next" := fun z => by
  have := congrArg tl z
  rw [tl_app, tl_app, t_blank, t_next] at this
  have h : (32 : Nat) ∈ [110, 101, 120, 116] := by rw [← this]; simp
  simp at h
theorem wRow_say {call b : Str} (h : nmS b = true) : wRow call ("say" ++ blank ++ b) = some [("say" : Str), b] := by
  unfold wRow
  rw [if_neg (ne_next (by rw [t_say]; simp)), cut_say.1, cut_say.2, if_pos ⟨rfl, h⟩]
theorem wRow_call {call b : Str} (h : nmS b = true) (hc : ltS call b = true) : wRow call ("call" ++ blank ++ b) = some [("call" : Str), b] := by
  have e1 := cutS_to ("call" ++ blank ++ b) 4
  rw [tl_app, tl_app, t_call, t_blank] at e1
  have hn : ¬ cutS ("call" ++ blank ++ b) none (some 4) = "say " := fun z => by
    rw [show ((4 : Nat) : Int) = 4 from rfl, z, t_say4] at e1
    simp at e1
  unfold wRow
  rw [if_neg (ne_next (by rw [t_call]; simp)), if_neg (fun z => hn z.1), cut_call.1, cut_call.2, if_pos ⟨rfl, h, hc⟩]
theorem wRow_next {call : Str} : wRow call "next" = some [("next" : Str)] := by
  unfold wRow
  rw [if_pos rfl]
theorem wRow_cases {call w : Str} {r : List Str} (h : wRow call w = some r) : (w = "next" ∧ r = [("next" : Str)]) ∨ (∃ b, nmS b = true ∧ w = "say" ++ blank ++ b ∧ r = [("say" : Str), b]) ∨ ∃ b, nmS b = true ∧ ltS call b = true ∧ w = "call" ++ blank ++ b ∧ r = [("call" : Str), b] := by
  unfold wRow at h
  split at h
  · rename_i h1
    exact .inl ⟨h1, (Option.some.inj h).symm⟩
  · split at h
    · rename_i h1
      exact .inr (.inl ⟨_, h1.2, say_of h1.1, (Option.some.inj h).symm⟩)
    · split at h
      · rename_i h1
        exact .inr (.inr ⟨_, h1.2.1, h1.2.2, call_of h1.1, (Option.some.inj h).symm⟩)
      · cases h
theorem split_next : Txt.split "next" blank = [("next" : Str)] := split_one (ps := [("next" : Str)]) (by simp) fun p hp => by
  rw [List.mem_singleton.mp hp]
  have := t_next
  unfold tl at this
  rw [this]
  simp
theorem split_pair {a b : Str} (ha : 32 ∉ tl a) (hb : 32 ∉ tl b) : Txt.split (a ++ blank ++ b) blank = [a, b] := split_one (ps := [a, b]) (by simp) fun p hp => by
  rcases List.mem_cons.mp hp with e | e
  · rw [e]; exact ha
  · rw [List.mem_singleton.mp e]; exact hb
theorem row_split (call w : Str) : rowOk call (Txt.split w blank) = (wRow call w).isSome ∧ ∀ r, wRow call w = some r → Txt.split w blank = r := by
  cases h : wRow call w with
  | some r =>
    rcases wRow_cases h with ⟨rfl, rfl⟩ | ⟨b, h1, rfl, rfl⟩ | ⟨b, h1, h2, rfl, rfl⟩
    · rw [split_next]
      exact ⟨by simp [rowOk], fun r h => by cases h; rfl⟩
    · rw [split_pair (by rw [t_say]; simp) (nm_blank h1)]
      exact ⟨by simp [rowOk, h1], fun r h => by cases h; rfl⟩
    · rw [split_pair (by rw [t_call]; simp) (nm_blank h1)]
      refine ⟨?_, fun r h => by cases h; rfl⟩
      have : ¬ ("call" : Str) = "say" := by decide +kernel
      simp [rowOk, h1, h2, this]
  | none =>
    refine ⟨?_, fun r h => by cases h⟩
    have hj := StrLaws.join_split w blank
    cases hr : rowOk call (Txt.split w blank) with
    | false => rfl
    | true =>
      exfalso
      generalize Txt.split w blank = ws at hj hr
      match ws, hj, hr with
      | [], _, hr => cases hr
      | [a], hj, hr =>
        have hj : a = w := hj
        have : a = "next" := by simpa [rowOk] using hr
        rw [← hj, this, wRow_next] at h
        cases h
      | [a, b], hj, hr =>
        have hj : a ++ blank ++ b = w := hj
        have hr : (if a = "say" then nmS b else (decide (a = "call") && (nmS b && ltS call b))) = true := hr
        split at hr
        · rename_i ha
          rw [← hj, ha, wRow_say hr] at h
          cases h
        · rw [Bool.and_eq_true, Bool.and_eq_true, decide_eq_true_eq] at hr
          rw [← hj, hr.1, wRow_call hr.2.1 hr.2.2] at h
          cases h
      | a :: b :: c :: r, _, hr => cases hr
/-- rows of a body, as words -/
def RowS (call : Str) (r : List Str) : Prop := r = [("next" : Str)] ∨ (∃ b, nmS b = true ∧ r = [("say" : Str), b]) ∨ ∃ b, nmS b = true ∧ ltS call b = true ∧ r = [("call" : Str), b]
theorem wRow_join {call : Str} {r : List Str} (h : RowS call r) : wRow call (Str.join blank r) = some r := by
  rcases h with rfl | ⟨b, h1, rfl⟩ | ⟨b, h1, h2, rfl⟩
  · exact wRow_next
  · exact wRow_say h1
  · exact wRow_call h1 h2
theorem row_comma {call : Str} {r : List Str} (h : RowS call r) : 44 ∉ (Str.join blank r).cps.toList := by
  show 44 ∉ tl (Str.join blank r)
  rcases h with rfl | ⟨b, h1, rfl⟩ | ⟨b, h1, h2, rfl⟩
  · show 44 ∉ tl "next"
    rw [t_next]
    simp
  · rw [join2, tl_app, tl_app, t_say, t_blank]
    have := nm_comma h1
    unfold tl
    simp [this]
  · rw [join2, tl_app, tl_app, t_call, t_blank]
    have := nm_comma h1
    unfold tl
    simp [this]
theorem row_len {call : Str} {r : List Str} (h : RowS call r) : 4 ≤ (Str.join blank r).length ∧ (Str.join blank r).length ≤ 13 := by
  rcases h with rfl | ⟨b, h1, rfl⟩ | ⟨b, h1, h2, rfl⟩
  · have : ("next" : Str).length = 4 := by decide +kernel
    show 4 ≤ ("next" : Str).length ∧ ("next" : Str).length ≤ 13
    omega
  · have h3 := nmS_iff.mp h1
    have : ("say" : Str).length = 3 := by decide +kernel
    rw [join2, Str.length_append, Str.length_append, this]
    have : blank.length = 1 := rfl
    omega
  · have h3 := nmS_iff.mp h1
    have : ("call" : Str).length = 4 := by decide +kernel
    rw [join2, Str.length_append, Str.length_append, this]
    have : blank.length = 1 := rfl
    omega
end DL

/-! Q1: isinstance of data; ops on texts -/
namespace DL
open PySem L2 PySem.Spec PyProof.Rows
theorem isi_non_str  : gIsi [D.non, .any (.ty "str")] = some (.dat (.bl false)) := by
  show (kitB "NoneType" "str").map (fun b => EV.dat (.bl b)) = _
  rw [show kitB "NoneType" "str" = some false by decide +kernel]
  rfl
theorem isi_non_tuple  : gIsi [D.non, .any (.ty "tuple")] = some (.dat (.bl false)) := by
  show (kitB "NoneType" "tuple").map (fun b => EV.dat (.bl b)) = _
  rw [show kitB "NoneType" "tuple" = some false by decide +kernel]
  rfl
theorem isi_non_int  : gIsi [D.non, .any (.ty "int")] = some (.dat (.bl false)) := by
  show (kitB "NoneType" "int").map (fun b => EV.dat (.bl b)) = _
  rw [show kitB "NoneType" "int" = some false by decide +kernel]
  rfl
theorem isi_non_bool  : gIsi [D.non, .any (.ty "bool")] = some (.dat (.bl false)) := by
  show (kitB "NoneType" "bool").map (fun b => EV.dat (.bl b)) = _
  rw [show kitB "NoneType" "bool" = some false by decide +kernel]
  rfl
theorem isi_non_list  : gIsi [D.non, .any (.ty "list")] = some (.dat (.bl false)) := by
  show (kitB "NoneType" "list").map (fun b => EV.dat (.bl b)) = _
  rw [show kitB "NoneType" "list" = some false by decide +kernel]
  rfl
theorem isi_bl_str (b : Bool) : gIsi [(D.bl b), .any (.ty "str")] = some (.dat (.bl false)) := by
  show (kitB "bool" "str").map (fun b => EV.dat (.bl b)) = _
  rw [show kitB "bool" "str" = some false by decide +kernel]
  rfl
theorem isi_bl_tuple (b : Bool) : gIsi [(D.bl b), .any (.ty "tuple")] = some (.dat (.bl false)) := by
  show (kitB "bool" "tuple").map (fun b => EV.dat (.bl b)) = _
  rw [show kitB "bool" "tuple" = some false by decide +kernel]
  rfl
theorem isi_bl_int (b : Bool) : gIsi [(D.bl b), .any (.ty "int")] = some (.dat (.bl true)) := by
  show (kitB "bool" "int").map (fun b => EV.dat (.bl b)) = _
  rw [show kitB "bool" "int" = some true by decide +kernel]
  rfl
theorem isi_bl_bool (b : Bool) : gIsi [(D.bl b), .any (.ty "bool")] = some (.dat (.bl true)) := by
  show (kitB "bool" "bool").map (fun b => EV.dat (.bl b)) = _
  rw [show kitB "bool" "bool" = some true by decide +kernel]
  rfl
theorem isi_bl_list (b : Bool) : gIsi [(D.bl b), .any (.ty "list")] = some (.dat (.bl false)) := by
  show (kitB "bool" "list").map (fun b => EV.dat (.bl b)) = _
  rw [show kitB "bool" "list" = some false by decide +kernel]
  rfl
theorem isi_int_str (i : Int) : gIsi [(D.int i), .any (.ty "str")] = some (.dat (.bl false)) := by
  show (kitB "int" "str").map (fun b => EV.dat (.bl b)) = _
  rw [show kitB "int" "str" = some false by decide +kernel]
  rfl
theorem isi_int_tuple (i : Int) : gIsi [(D.int i), .any (.ty "tuple")] = some (.dat (.bl false)) := by
  show (kitB "int" "tuple").map (fun b => EV.dat (.bl b)) = _
  rw [show kitB "int" "tuple" = some false by decide +kernel]
  rfl
theorem isi_int_int (i : Int) : gIsi [(D.int i), .any (.ty "int")] = some (.dat (.bl true)) := by
  show (kitB "int" "int").map (fun b => EV.dat (.bl b)) = _
  rw [show kitB "int" "int" = some true by decide +kernel]
  rfl
theorem isi_int_bool (i : Int) : gIsi [(D.int i), .any (.ty "bool")] = some (.dat (.bl false)) := by
  show (kitB "int" "bool").map (fun b => EV.dat (.bl b)) = _
  rw [show kitB "int" "bool" = some false by decide +kernel]
  rfl
theorem isi_int_list (i : Int) : gIsi [(D.int i), .any (.ty "list")] = some (.dat (.bl false)) := by
  show (kitB "int" "list").map (fun b => EV.dat (.bl b)) = _
  rw [show kitB "int" "list" = some false by decide +kernel]
  rfl
theorem isi_str_str (x : Str) : gIsi [(D.str x), .any (.ty "str")] = some (.dat (.bl true)) := by
  show (kitB "str" "str").map (fun b => EV.dat (.bl b)) = _
  rw [show kitB "str" "str" = some true by decide +kernel]
  rfl
theorem isi_str_tuple (x : Str) : gIsi [(D.str x), .any (.ty "tuple")] = some (.dat (.bl false)) := by
  show (kitB "str" "tuple").map (fun b => EV.dat (.bl b)) = _
  rw [show kitB "str" "tuple" = some false by decide +kernel]
  rfl
theorem isi_str_int (x : Str) : gIsi [(D.str x), .any (.ty "int")] = some (.dat (.bl false)) := by
  show (kitB "str" "int").map (fun b => EV.dat (.bl b)) = _
  rw [show kitB "str" "int" = some false by decide +kernel]
  rfl
theorem isi_str_bool (x : Str) : gIsi [(D.str x), .any (.ty "bool")] = some (.dat (.bl false)) := by
  show (kitB "str" "bool").map (fun b => EV.dat (.bl b)) = _
  rw [show kitB "str" "bool" = some false by decide +kernel]
  rfl
theorem isi_str_list (x : Str) : gIsi [(D.str x), .any (.ty "list")] = some (.dat (.bl false)) := by
  show (kitB "str" "list").map (fun b => EV.dat (.bl b)) = _
  rw [show kitB "str" "list" = some false by decide +kernel]
  rfl
theorem isi_lst_str (xs : List D) : gIsi [(D.lst xs), .any (.ty "str")] = some (.dat (.bl false)) := by
  show (kitB "list" "str").map (fun b => EV.dat (.bl b)) = _
  rw [show kitB "list" "str" = some false by decide +kernel]
  rfl
theorem isi_lst_tuple (xs : List D) : gIsi [(D.lst xs), .any (.ty "tuple")] = some (.dat (.bl false)) := by
  show (kitB "list" "tuple").map (fun b => EV.dat (.bl b)) = _
  rw [show kitB "list" "tuple" = some false by decide +kernel]
  rfl
theorem isi_lst_int (xs : List D) : gIsi [(D.lst xs), .any (.ty "int")] = some (.dat (.bl false)) := by
  show (kitB "list" "int").map (fun b => EV.dat (.bl b)) = _
  rw [show kitB "list" "int" = some false by decide +kernel]
  rfl
theorem isi_lst_bool (xs : List D) : gIsi [(D.lst xs), .any (.ty "bool")] = some (.dat (.bl false)) := by
  show (kitB "list" "bool").map (fun b => EV.dat (.bl b)) = _
  rw [show kitB "list" "bool" = some false by decide +kernel]
  rfl
theorem isi_lst_list (xs : List D) : gIsi [(D.lst xs), .any (.ty "list")] = some (.dat (.bl true)) := by
  show (kitB "list" "list").map (fun b => EV.dat (.bl b)) = _
  rw [show kitB "list" "list" = some true by decide +kernel]
  rfl
theorem isi_tup_str (xs : List D) : gIsi [(D.tup xs), .any (.ty "str")] = some (.dat (.bl false)) := by
  show (kitB "tuple" "str").map (fun b => EV.dat (.bl b)) = _
  rw [show kitB "tuple" "str" = some false by decide +kernel]
  rfl
theorem isi_tup_tuple (xs : List D) : gIsi [(D.tup xs), .any (.ty "tuple")] = some (.dat (.bl true)) := by
  show (kitB "tuple" "tuple").map (fun b => EV.dat (.bl b)) = _
  rw [show kitB "tuple" "tuple" = some true by decide +kernel]
  rfl
theorem isi_tup_int (xs : List D) : gIsi [(D.tup xs), .any (.ty "int")] = some (.dat (.bl false)) := by
  show (kitB "tuple" "int").map (fun b => EV.dat (.bl b)) = _
  rw [show kitB "tuple" "int" = some false by decide +kernel]
  rfl
theorem isi_tup_bool (xs : List D) : gIsi [(D.tup xs), .any (.ty "bool")] = some (.dat (.bl false)) := by
  show (kitB "tuple" "bool").map (fun b => EV.dat (.bl b)) = _
  rw [show kitB "tuple" "bool" = some false by decide +kernel]
  rfl
theorem isi_tup_list (xs : List D) : gIsi [(D.tup xs), .any (.ty "list")] = some (.dat (.bl false)) := by
  show (kitB "tuple" "list").map (fun b => EV.dat (.bl b)) = _
  rw [show kitB "tuple" "list" = some false by decide +kernel]
  rfl
theorem gEqU_str (x y : Str) : gEqU (.str x) (.str y) = some (.dat (.bl (decide (x = y)))) := rfl
theorem gNeU_str (x y : Str) : gNeU (.str x) (.str y) = some (.dat (.bl (!decide (x = y)))) := rfl
theorem gEqU_int (x y : Int) : gEqU (.int x) (.int y) = some (.dat (.bl (decide (x = y)))) := rfl
theorem gNeU_int (x y : Int) : gNeU (.int x) (.int y) = some (.dat (.bl (!decide (x = y)))) := rfl
theorem gGtU_int (x y : Int) : gGtU (.int x) (.int y) = some (.dat (.bl (decide (y < x)))) := rfl
theorem gGtU_str (x y : Str) : gGtU (.str x) (.str y) = some (.dat (.bl (ltS y x))) := rfl
theorem gAddU_int (x y : Int) : gAddU (.int x) (.int y) = some (.dat (.int (x + y))) := rfl
theorem gLenU_str {x : Str} (h : small x.length = true) : gLenU [.str x] = some (.dat (.int x.length)) := by
  show (if small x.length then _ else _) = _
  rw [if_pos h]
theorem gLenU_tup (xs : List D) : gLenU [.tup xs] = some (.dat (.int xs.length)) := rfl
theorem gLenU_lst (xs : List D) : gLenU [.lst xs] = some (.dat (.int xs.length)) := rfl
theorem gSl_str {x : Str} (lo hi : Option Int) (h : small x.length = true) : gSl (.str x) lo hi = some (.dat (.str (cutS x lo hi))) := by
  show (if small x.length then _ else _) = _
  rw [if_pos h]
theorem gAddU_str {x y : Str} (h : small (x.length + y.length) = true) : gAddU (.str x) (.str y) = some (.dat (.str (x ++ y))) := by
  show (if small (x.length + y.length) then _ else _) = _
  rw [if_pos h]
theorem gSplit_str {x y : Str} (h1 : (y.length == 0) = false) (h2 : x.length + 2 ≤ sizeLine) : gSplit (.str x) (.str y) = some (.new (.lst ((Txt.split x y).map .str))) := by
  show (if (y.length == 0) = false ∧ x.length + 2 ≤ sizeLine then some (EV.new (.lst ((Txt.split x y).map .str))) else none) = _
  rw [if_pos ⟨h1, h2⟩]
theorem gIx_tup {xs : List D} {n : Nat} {d : D} (h : xs[n]? = some d) : gIx (.tup xs) (.int (n : Int)) = some (.dat d) := by
  show (atI xs (n : Int)).map EV.dat = _
  rw [DL.atI_get h]
  rfl
theorem gIx_lst {xs : List D} {n : Nat} {d : D} (h : xs[n]? = some d) : gIx (.lst xs) (.int (n : Int)) = some (.dat d) := by
  show (atI xs (n : Int)).map EV.dat = _
  rw [DL.atI_get h]
  rfl
theorem cutS_len (x : Str) (lo hi : Option Int) : (cutS x lo hi).length ≤ x.length := by
  show (((x.cps.toList.drop _).take _).toArray).size ≤ _
  simp
  unfold Str.length
  omega
theorem small_le {a b : Nat} (h : small b = true) (hl : a ≤ b) : small a = true := decide_eq_true (Nat.le_trans hl (of_decide_eq_true h))
theorem small_of {a : Nat} (h : a ≤ 16777216) : small a = true := decide_eq_true (by unfold sizeLine; omega)
theorem strsD_map (l : List Str) : strsD (l.map D.str) = some l := by
  induction l with
  | nil => rfl
  | cons a r ih => simp [strsD, strD, ih]
theorem blsD_map' {α : Type} (p : α → Bool) : ∀ l : List α, blsD (l.map fun a => D.bl (p a)) = some (l.map p)
  | [] => rfl
  | a :: r => by simp [blsD, blD, blsD_map' p r]
theorem gAll_of {α : Type} (p : α → Bool) (l : List α) : gAll [.lst (l.map fun a => .bl (p a))] = some (.dat (.bl (l.all p))) := by
  show ((blsD (l.map fun a => D.bl (p a))).bind fun ns => some (EV.dat (.bl (ns.all id)))) = _
  rw [blsD_map']
  simp
theorem gAny_of {α : Type} (p : α → Bool) (l : List α) : gAny [.lst (l.map fun a => .bl (p a))] = some (.dat (.bl (l.any p))) := by
  show ((blsD (l.map fun a => D.bl (p a))).bind fun ns => some (EV.dat (.bl (ns.any id)))) = _
  rw [blsD_map']
  simp
/-! one sign in the letters -/
theorem gInU_sign (c : Nat) (z : Str) : gInU (.str ⟨#[c]⟩) (.str z) = some (.dat (.bl (decide (c ∈ z.cps.toList)))) := by
  unfold gInU
  have h0 : gIn false (.str ⟨#[c]⟩) (.str z) = none := rfl
  rw [h0]
  rfl
theorem letters_low (c : Nat) : decide (c ∈ ("abcdefghijklmnopqrstuvwxyz" : Str).cps.toList) = low c := by
  have : ("abcdefghijklmnopqrstuvwxyz" : Str).cps.toList = (List.range 26).map fun i => 97 + i := by decide +kernel
  rw [this, Bool.eq_iff_iff, decide_eq_true_eq]
  simp only [List.mem_map, List.mem_range, low, Bool.and_eq_true, decide_eq_true_eq]
  constructor
  · rintro ⟨i, h, rfl⟩
    omega
  · rintro ⟨h1, h2⟩
    exact ⟨c - 97, by omega, by omega⟩
/-! slots: own or data -/
def Jk' (z : Slot) : Prop := z = .no ∨ ∃ q, z = .imm q
theorem Jk'.no : Jk' .no := .inl rfl
theorem Jk'.im (d : D) : Jk' (.imm d) := .inr ⟨d, rfl⟩
def OI' (w : Slot) (d : D) : Prop := w = .own d ∨ w = .imm d
end DL

/-! P3: loops with any end; parts of a text -/
namespace DL
open PySem L2 PySem.Spec PyProof.Rows
def isEnd : OutS → Bool
  | .ret _ _ => true
  | .exc _ _ _ => true
  | _ => false
section
variable {s : Src} {g : EV → Env → OutS} {F : Env → OutS}
theorem loopF_invG {I : Nat → Env → Prop} {B : Env → Prop} {Z : OutS → Prop} (hok : ∀ env, I s.n env → s.ok env = true)
    (step : ∀ i env, i < s.n → I i env → ∃ d, s.it env i = some d ∧ ((∃ env', ((g (.dat d) env).bind F = .next env' ∨ (g (.dat d) env).bind F = .cnt env') ∧ I (i + 1) env') ∨ (∃ env', (g (.dat d) env).bind F = .brk env' ∧ B env') ∨ (∃ o, (g (.dat d) env).bind F = o ∧ isEnd o = true ∧ Z o))) :
    ∀ (r : Nat) (env : Env), r ≤ s.n → I (s.n - r) env → (∃ env', loopF s g F r env = .next env' ∧ (I s.n env' ∨ B env')) ∨ (∃ o, loopF s g F r env = o ∧ isEnd o = true ∧ Z o) := by
  intro r
  induction r with
  | zero =>
    intro env _ h
    refine .inl ⟨env, ?_, .inl (by simpa using h)⟩
    rw [loopF, if_pos (hok env (by simpa using h))]
  | succ r ih =>
    intro env hr h
    obtain ⟨d, h1, ⟨env', h2, h4⟩ | ⟨env', h2, h4⟩ | ⟨o, h2, h3, h4⟩⟩ := step _ env (by omega) h
    · have go : loopF s g F (r + 1) env = loopF s g F r env' := by
        rw [loopF, h1]
        rcases h2 with h2 | h2 <;> simp only [h2]
      rw [go]
      exact ih _ (by omega) (by rw [show s.n - r = s.n - (r + 1) + 1 by omega]; exact h4)
    · refine .inl ⟨env', ?_, .inr h4⟩
      rw [loopF, h1]
      simp only [h2]
    · refine .inr ⟨o, ?_, h3, h4⟩
      rw [loopF, h1]
      simp only [h2]
      cases o <;> first | rfl | cases h3
theorem sFor_invG {fs : Env → Out Src} {I : Nat → Env → Prop} {B : Env → Prop} {Z : OutS → Prop} {env e0 : Env} (hs : fs env = .val s e0) (h0 : I 0 e0) (hok : ∀ env, I s.n env → s.ok env = true)
    (step : ∀ i env, i < s.n → I i env → ∃ d, s.it env i = some d ∧ ((∃ env', ((g (.dat d) env).bind F = .next env' ∨ (g (.dat d) env).bind F = .cnt env') ∧ I (i + 1) env') ∨ (∃ env', (g (.dat d) env).bind F = .brk env' ∧ B env') ∨ (∃ o, (g (.dat d) env).bind F = o ∧ isEnd o = true ∧ Z o))) :
    (∃ env', sFor fs g F env = .next env' ∧ (I s.n env' ∨ B env')) ∨ (∃ o, sFor fs g F env = o ∧ isEnd o = true ∧ Z o) := by
  have := loopF_invG hok step s.n e0 (Nat.le_refl _) (by rw [Nat.sub_self]; exact h0)
  unfold sFor
  rw [hs]
  exact this
end
theorem len_jl (sep : List Nat) : ∀ {A : List (List Nat)} {a : List Nat}, a ∈ A → a.length ≤ (jl sep A).length
  | [], _, h => by cases h
  | [x], a, h => by
    rw [List.mem_singleton.mp h]
    exact Nat.le_refl _
  | x :: y :: r, a, h => by
    show _ ≤ (x ++ sep ++ jl sep (y :: r)).length
    simp only [List.length_append]
    rcases List.mem_cons.mp h with e | e
    · rw [e]; omega
    · have := len_jl sep (A := y :: r) e
      omega
theorem part_len {x y p : Str} (h : p ∈ Txt.split x y) : p.length ≤ x.length := by
  have e := congrArg tl (StrLaws.join_split x y)
  unfold tl at e
  rw [join_cps] at e
  have h2 := len_jl y.cps.toList (A := (Txt.split x y).map fun p => p.cps.toList) (a := p.cps.toList) (List.mem_map.mpr ⟨p, h, rfl⟩)
  rw [e] at h2
  simpa [Str.length] using h2
theorem parts_len (x y : Str) : (Txt.split x y).length ≤ x.length + 2 := PyProof.Rows.split_le x y
end DL

/-! P4: equality of plain data -/
namespace DL
open PySem L2 PySem.Spec PyProof.Rows
mutual
def gd : D → Bool
  | .non => true
  | .int _ => true
  | .str x => PyData.strOk x
  | .lst xs => gds xs
  | .tup xs => gds xs
  | .bl _ => false
  | .frl _ => false
  | .dic _ => false
  | .prs _ => false
  | .any _ => false
def gds : List D → Bool
  | [] => true
  | x :: xs => gd x && gds xs
end
mutual
def dep : D → Nat
  | .lst xs => deps xs + 1
  | .tup xs => deps xs + 1
  | .non => 0
  | .int _ => 0
  | .str _ => 0
  | .bl _ => 0
  | .frl _ => 0
  | .dic _ => 0
  | .prs _ => 0
  | .any _ => 0
def deps : List D → Nat
  | [] => 0
  | x :: xs => max (dep x) (deps xs)
end
mutual
theorem gd_py : ∀ {d : D}, gd d = true → ∃ x, toPy d = some x ∧ x.canLay0 = true ∧ x.depth ≤ dep d
  | .non, _ => ⟨.none, by simp [toPy], by simp [PyData.canLay0], by simp [PyData.depth]⟩
  | .int i, _ => ⟨.int i, by simp [toPy], by simp [PyData.canLay0], by simp [PyData.depth]⟩
  | .str s, h => ⟨.str s, by simp [toPy], by simpa [PyData.canLay0, gd] using h, by simp [PyData.depth]⟩
  | .lst xs, h => by
    obtain ⟨ys, h1, h2, h3⟩ := gds_py (xs := xs) (by simpa [gd] using h)
    exact ⟨.list ys, by simp [toPy, h1], by simpa [PyData.canLay0] using h2, by simp only [PyData.depth, dep]; omega⟩
  | .tup xs, h => by
    obtain ⟨ys, h1, h2, h3⟩ := gds_py (xs := xs) (by simpa [gd] using h)
    exact ⟨.tuple ys, by simp [toPy, h1], by simpa [PyData.canLay0] using h2, by simp only [PyData.depth, dep]; omega⟩
  | .bl _, h => by simp [gd] at h
  | .frl _, h => by simp [gd] at h
  | .dic _, h => by simp [gd] at h
  | .prs _, h => by simp [gd] at h
  | .any _, h => by simp [gd] at h
theorem gds_py : ∀ {xs : List D}, gds xs = true → ∃ ys, toPys xs = some ys ∧ PyData.canLayAll0 ys = true ∧ PyData.depthAll ys ≤ deps xs
  | [], _ => ⟨[], by simp [toPys], by simp [PyData.canLayAll0], by simp [PyData.depthAll]⟩
  | x :: xs, h => by
    rw [gds, Bool.and_eq_true] at h
    obtain ⟨y, a1, a2, a3⟩ := gd_py h.1
    obtain ⟨ys, b1, b2, b3⟩ := gds_py h.2
    exact ⟨y :: ys, by simp [toPys, a1, b1], by simp [PyData.canLayAll0, a2, b2], by simp only [PyData.depthAll, deps]; omega⟩
end
mutual
theorem eqv_iff : ∀ {a b : D} {x y : PyData}, gd a = true → gd b = true → toPy a = some x → toPy b = some y → (PyData.eqv x y = true ↔ a = b)
  | .non, b, x, y, ha, hb, ex, ey => by
    cases b <;> simp [gd] at hb <;> simp [toPy] at ex ey <;> first | (subst ex; subst ey; simp [PyData.eqv]) | (subst ex; obtain ⟨z, _, rfl⟩ := ey; simp [PyData.eqv])
  | .int i, b, x, y, ha, hb, ex, ey => by
    cases b <;> simp [gd] at hb <;> simp [toPy] at ex ey <;> first | (subst ex; subst ey; simp [PyData.eqv]) | (subst ex; obtain ⟨z, _, rfl⟩ := ey; simp [PyData.eqv])
  | .str s, b, x, y, ha, hb, ex, ey => by
    cases b <;> simp [gd] at hb <;> simp [toPy] at ex ey <;> first | (subst ex; subst ey; simp [PyData.eqv]) | (subst ex; obtain ⟨z, _, rfl⟩ := ey; simp [PyData.eqv])
  | .lst xs, .lst ys, x, y, ha, hb, ex, ey => by
    simp only [toPy, Option.map_eq_some_iff] at ex ey
    obtain ⟨p, hp, rfl⟩ := ex
    obtain ⟨q, hq, rfl⟩ := ey
    simp only [gd] at ha hb
    have := eqvs_iff ha hb hp hq
    simp [PyData.eqv, this]
  | .tup xs, .tup ys, x, y, ha, hb, ex, ey => by
    simp only [toPy, Option.map_eq_some_iff] at ex ey
    obtain ⟨p, hp, rfl⟩ := ex
    obtain ⟨q, hq, rfl⟩ := ey
    simp only [gd] at ha hb
    have := eqvs_iff ha hb hp hq
    simp [PyData.eqv, this]
  | .lst xs, .non, x, y, ha, hb, ex, ey => by simp [toPy] at ex ey; obtain ⟨z, _, rfl⟩ := ex; subst ey; simp [PyData.eqv]
  | .lst xs, .int _, x, y, ha, hb, ex, ey => by simp [toPy] at ex ey; obtain ⟨z, _, rfl⟩ := ex; subst ey; simp [PyData.eqv]
  | .lst xs, .str _, x, y, ha, hb, ex, ey => by simp [toPy] at ex ey; obtain ⟨z, _, rfl⟩ := ex; subst ey; simp [PyData.eqv]
  | .lst xs, .tup ys, x, y, ha, hb, ex, ey => by simp [toPy] at ex ey; obtain ⟨z, _, rfl⟩ := ex; obtain ⟨z2, _, rfl⟩ := ey; simp [PyData.eqv]
  | .tup xs, .non, x, y, ha, hb, ex, ey => by simp [toPy] at ex ey; obtain ⟨z, _, rfl⟩ := ex; subst ey; simp [PyData.eqv]
  | .tup xs, .int _, x, y, ha, hb, ex, ey => by simp [toPy] at ex ey; obtain ⟨z, _, rfl⟩ := ex; subst ey; simp [PyData.eqv]
  | .tup xs, .str _, x, y, ha, hb, ex, ey => by simp [toPy] at ex ey; obtain ⟨z, _, rfl⟩ := ex; subst ey; simp [PyData.eqv]
  | .tup xs, .lst ys, x, y, ha, hb, ex, ey => by simp [toPy] at ex ey; obtain ⟨z, _, rfl⟩ := ex; obtain ⟨z2, _, rfl⟩ := ey; simp [PyData.eqv]
  | .bl _, _, _, _, h, _, _, _ => by simp [gd] at h
  | .frl _, _, _, _, h, _, _, _ => by simp [gd] at h
  | .dic _, _, _, _, h, _, _, _ => by simp [gd] at h
  | .prs _, _, _, _, h, _, _, _ => by simp [gd] at h
  | .any _, _, _, _, h, _, _, _ => by simp [gd] at h
  | .lst _, .bl _, _, _, _, h, _, _ => by simp [gd] at h
  | .lst _, .frl _, _, _, _, h, _, _ => by simp [gd] at h
  | .lst _, .dic _, _, _, _, h, _, _ => by simp [gd] at h
  | .lst _, .prs _, _, _, _, h, _, _ => by simp [gd] at h
  | .lst _, .any _, _, _, _, h, _, _ => by simp [gd] at h
  | .tup _, .bl _, _, _, _, h, _, _ => by simp [gd] at h
  | .tup _, .frl _, _, _, _, h, _, _ => by simp [gd] at h
  | .tup _, .dic _, _, _, _, h, _, _ => by simp [gd] at h
  | .tup _, .prs _, _, _, _, h, _, _ => by simp [gd] at h
  | .tup _, .any _, _, _, _, h, _, _ => by simp [gd] at h
theorem eqvs_iff : ∀ {as bs : List D} {xs ys : List PyData}, gds as = true → gds bs = true → toPys as = some xs → toPys bs = some ys → (PyData.eqvAll xs ys = true ↔ as = bs)
  | [], [], _, _, _, _, ex, ey => by
    simp [toPys] at ex ey
    subst ex
    subst ey
    simp [PyData.eqvAll]
  | [], b :: bs, _, _, _, hb, ex, ey => by
    simp only [toPys, Option.bind_eq_some_iff] at ey
    obtain ⟨y, h1, ys, h2, h3⟩ := ey
    cases h3
    simp [toPys] at ex
    subst ex
    simp [PyData.eqvAll]
  | a :: as, [], _, _, _, _, ex, ey => by
    simp only [toPys, Option.bind_eq_some_iff] at ex
    obtain ⟨y, h1, ys, h2, h3⟩ := ex
    cases h3
    simp [toPys] at ey
    subst ey
    simp [PyData.eqvAll]
  | a :: as, b :: bs, _, _, ha, hb, ex, ey => by
    simp only [toPys, Option.bind_eq_some_iff] at ex ey
    obtain ⟨x, h1, xs, h2, h3⟩ := ex
    cases h3
    obtain ⟨y, g1, ys, g2, g3⟩ := ey
    cases g3
    rw [gds, Bool.and_eq_true] at ha hb
    have i1 := eqv_iff ha.1 hb.1 h1 g1
    have i2 := eqvs_iff ha.2 hb.2 h2 g2
    simp [PyData.eqvAll, i1, i2]
end
theorem shaped_gd {d : D} {x : PyData} (h : gd d = true) (hd : dep d ≤ 64) (e : toPy d = some x) : SeqAt.shaped x = true := by
  obtain ⟨y, h1, h2, h3⟩ := gd_py h
  rw [e] at h1
  cases h1
  unfold SeqAt.shaped
  rw [h2, Bool.true_and]
  exact decide_eq_true (by omega)
/-- equal or not -/
theorem eqD_gd {a b : D} (ha : gd a = true) (hb : gd b = true) (da : dep a ≤ 64) (db : dep b ≤ 64) : ∃ c, eqD a b = some c ∧ (c = true ↔ a = b) := by
  obtain ⟨x, h1, h2, h3⟩ := gd_py ha
  obtain ⟨y, g1, g2, g3⟩ := gd_py hb
  have s1 := shaped_gd ha da h1
  have s2 := shaped_gd hb db g1
  have key : ((toPy a).bind fun x => (toPy b).bind fun y => if SeqAt.shaped x && SeqAt.shaped y then some (PyData.eqv x y) else none) = some (PyData.eqv x y) := by
    rw [h1, g1]
    simp [s1, s2]
  unfold eqD
  split
  · exact ⟨_, rfl, by simp⟩
  · exact ⟨_, rfl, by simp⟩
  · exact ⟨_, rfl, by simp⟩
  · exact ⟨_, rfl, by simp⟩
  · exact ⟨_, key, eqv_iff ha hb h1 g1⟩
theorem gEqU_same {a : D} (ha : gd a = true) (da : dep a ≤ 64) : gEqU a a = some (.dat (.bl true)) := by
  obtain ⟨c, h1, h2⟩ := eqD_gd ha ha da da
  unfold gEqU
  rw [h1, h2.mpr rfl]
  rfl
theorem gNeU_same {a : D} (ha : gd a = true) (da : dep a ≤ 64) : gNeU a a = some (.dat (.bl false)) := by
  obtain ⟨c, h1, h2⟩ := eqD_gd ha ha da da
  unfold gNeU
  rw [h1, h2.mpr rfl]
  rfl
theorem gNeU_diff {a b : D} (ha : gd a = true) (hb : gd b = true) (da : dep a ≤ 64) (db : dep b ≤ 64) (h : a ≠ b) : gNeU a b = some (.dat (.bl true)) := by
  obtain ⟨c, h1, h2⟩ := eqD_gd ha hb da db
  unfold gNeU
  rw [h1]
  cases c with
  | true => exact absurd (h2.mp rfl) h
  | false => rfl
theorem gEqU_diff {a b : D} (ha : gd a = true) (hb : gd b = true) (da : dep a ≤ 64) (db : dep b ≤ 64) (h : a ≠ b) : gEqU a b = some (.dat (.bl false)) := by
  obtain ⟨c, h1, h2⟩ := eqD_gd ha hb da db
  unfold gEqU
  rw [h1]
  cases c with
  | true => exact absurd (h2.mp rfl) h
  | false => rfl
theorem gds_map {α : Type} {f : α → D} : ∀ {l : List α}, (∀ x ∈ l, gd (f x) = true) → gds (l.map f) = true
  | [], _ => by simp [gds]
  | a :: r, h => by
    rw [List.map_cons, gds, h a (by simp), gds_map fun x hx => h x (by simp [hx])]
    rfl
theorem deps_map {α : Type} {f : α → D} {n : Nat} : ∀ {l : List α}, (∀ x ∈ l, dep (f x) ≤ n) → deps (l.map f) ≤ n
  | [], _ => by simp [deps]
  | a :: r, h => by
    rw [List.map_cons, deps]
    have h1 := h a (by simp)
    have h2 := deps_map (f := f) (n := n) (l := r) fun x hx => h x (by simp [hx])
    omega
/-! signs of a text -/
def okS (x : Str) : Prop := ∀ c ∈ x.cps.toList, c < 1114112
theorem okS_iff {x : Str} : PyData.strOk x = true ↔ okS x := by
  unfold PyData.strOk okS
  rw [Array.all_eq_true_iff_forall_mem]
  simp
theorem okS_app {x y : Str} (hx : okS x) (hy : okS y) : okS (x ++ y) := by
  intro c hc
  rw [Str.cps_append, Array.toList_append] at hc
  rcases List.mem_append.mp hc with h | h
  · exact hx c h
  · exact hy c h
theorem okS_low {x : Str} (h : ∀ c ∈ x.cps.toList, low c = true) : okS x := fun c hc => by
  have := h c hc
  simp [low] at this
  omega
theorem okS_nm {x : Str} (h : nmS x = true) : okS x := okS_low (nmS_iff.mp h).2.2
theorem mem_jl {c : Nat} (sep : List Nat) : ∀ {A : List (List Nat)} {a : List Nat}, a ∈ A → c ∈ a → c ∈ jl sep A
  | [], _, h, _ => by cases h
  | [x], a, h, hc => by
    rw [List.mem_singleton.mp h] at hc
    exact hc
  | x :: y :: r, a, h, hc => by
    show c ∈ x ++ sep ++ jl sep (y :: r)
    rcases List.mem_cons.mp h with e | e
    · rw [e] at hc
      simp [hc]
    · have := mem_jl sep (A := y :: r) e hc
      simp [this]
theorem okS_part {x y p : Str} (hx : okS x) (h : p ∈ Txt.split x y) : okS p := fun c hc => by
  have e := congrArg tl (StrLaws.join_split x y)
  unfold tl at e
  rw [join_cps] at e
  refine hx c ?_
  rw [← e]
  exact mem_jl _ (List.mem_map.mpr ⟨p, h, rfl⟩) hc
theorem okS_cut {x : Str} (hx : okS x) (lo hi : Option Int) : okS (cutS x lo hi) := fun c hc => by
  have hc : c ∈ ((x.cps.toList.drop _).take _) := hc
  exact hx c (List.mem_of_mem_drop (List.mem_of_mem_take hc))
theorem mem_jl_iff {c : Nat} {sep : List Nat} : ∀ {A : List (List Nat)}, c ∈ jl sep A → c ∈ sep ∨ ∃ a ∈ A, c ∈ a
  | [], h => by cases h
  | [x], h => .inr ⟨x, by simp, h⟩
  | x :: y :: r, h => by
    have h : c ∈ x ++ sep ++ jl sep (y :: r) := h
    rcases List.mem_append.mp h with h | h
    · rcases List.mem_append.mp h with h | h
      · exact .inr ⟨x, by simp, h⟩
      · exact .inl h
    · rcases mem_jl_iff h with h | ⟨a, h1, h2⟩
      · exact .inl h
      · exact .inr ⟨a, by simp [h1], h2⟩
theorem okS_join {sep : Str} {ps : List Str} (hs : okS sep) (h : ∀ p ∈ ps, okS p) : okS (Str.join sep ps) := fun c hc => by
  rw [join_cps] at hc
  rcases mem_jl_iff hc with h1 | ⟨a, h1, h2⟩
  · exact hs c h1
  · obtain ⟨p, hp, rfl⟩ := List.mem_map.mp h1
    exact h p hp c h2
end DL
namespace DL
open PySem L2 PySem.Spec PyProof.Rows
theorem any_eqv {α : Type} {f : α → D} {a : D} {x : PyData} {p : α → Bool} (ha : gd a = true) (hx : toPy a = some x) : ∀ {l : List α} {ys : List PyData}, (∀ o ∈ l, gd (f o) = true) → (∀ o ∈ l, (p o = true ↔ f o = a)) → toPys (l.map f) = some ys → ys.any (fun z => PyData.eqv z x) = l.any p ∧ ys.findIdx? (fun z => PyData.eqv z x) = l.findIdx? p
  | [], ys, _, _, h => by
    simp [toPys] at h
    subst h
    exact ⟨rfl, rfl⟩
  | o :: r, ys, hg, hp, h => by
    simp only [List.map_cons, toPys, Option.bind_eq_some_iff] at h
    obtain ⟨y, h1, ys', h2, h3⟩ := h
    cases h3
    obtain ⟨i1, i2⟩ := any_eqv ha hx (fun o ho => hg o (by simp [ho])) (fun o ho => hp o (by simp [ho])) h2
    have e := eqv_iff (hg o (by simp)) ha h1 hx
    have e2 : PyData.eqv y x = p o := by
      rw [Bool.eq_iff_iff, e, hp o (by simp)]
    rw [List.any_cons, List.any_cons, List.findIdx?_cons, List.findIdx?_cons, e2, i1, i2]
    exact ⟨rfl, rfl⟩
theorem inDD_gd {α : Type} {f : α → D} {a : D} {p : α → Bool} {l : List α} (ha : gd a = true) (hd : dep a ≤ 64) (hg : ∀ o ∈ l, gd (f o) = true) (hl : ∀ o ∈ l, dep (f o) ≤ 60) (hp : ∀ o ∈ l, (p o = true ↔ f o = a)) : inDD a (l.map f) = some (l.any p) := by
  obtain ⟨x, h1, h2, h3⟩ := gd_py ha
  obtain ⟨ys, g1, g2, g3⟩ := gds_py (gds_map hg)
  have s1 := shaped_gd ha hd h1
  have s2 : SeqAt.shaped (.list ys) = true := shaped_gd (d := .lst (l.map f)) (by simp only [gd]; exact gds_map hg) (by simp only [dep]; have := deps_map hl; omega) (by simp [toPy, g1])
  unfold inDD
  rw [h1, g1]
  simp [s1, s2, (any_eqv ha h1 hg hp g1).1]
theorem idxDD_gd {α : Type} {f : α → D} {a : D} {p : α → Bool} {l : List α} (ha : gd a = true) (hd : dep a ≤ 64) (hg : ∀ o ∈ l, gd (f o) = true) (hl : ∀ o ∈ l, dep (f o) ≤ 60) (hp : ∀ o ∈ l, (p o = true ↔ f o = a)) : idxDD (l.map f) a = l.findIdx? p := by
  obtain ⟨x, h1, h2, h3⟩ := gd_py ha
  obtain ⟨ys, g1, g2, g3⟩ := gds_py (gds_map hg)
  have s1 := shaped_gd ha hd h1
  have s2 : SeqAt.shaped (.list ys) = true := shaped_gd (d := .lst (l.map f)) (by simp only [gd]; exact gds_map hg) (by simp only [dep]; have := deps_map hl; omega) (by simp [toPy, g1])
  unfold idxDD
  rw [h1, g1]
  simp [s1, s2, (any_eqv ha h1 hg hp g1).2]
/-- None in a list -/
theorem gInU_none {α : Type} {f : α → D} {p : α → Bool} {l : List α} (hg : ∀ o ∈ l, gd (f o) = true) (hl : ∀ o ∈ l, dep (f o) ≤ 60) (hp : ∀ o ∈ l, (p o = true ↔ f o = .non)) : gInU .non (.lst (l.map f)) = some (.dat (.bl (l.any p))) := by
  unfold gInU
  cases h0 : gIn false .non (.lst (l.map f)) with
  | none =>
    show (inDD .non (l.map f)).map (fun b => EV.dat (.bl b)) = _
    rw [inDD_gd (by simp [gd]) (by simp [dep]) hg hl hp]
    rfl
  | some ev =>
    show some ev = _
    have h0 : ((flDs (l.map f)).bind fun vs => some (EV.dat (.bl (inV .non vs)))) = some ev := h0
    obtain ⟨vs, h1, h2⟩ := Option.bind_eq_some_iff.mp h0
    cases h2
    have key : ∀ {l : List α} {vs : List V}, (∀ o ∈ l, (p o = true ↔ f o = .non)) → flDs (l.map f) = some vs → inV .non vs = l.any p := by
      intro l
      induction l with
      | nil =>
        intro vs _ h
        cases h
        rfl
      | cons o r ih =>
        intro vs hp h
        simp only [List.map_cons, flDs, Option.bind_eq_some_iff] at h
        obtain ⟨v, h1, vs', h2, h3⟩ := h
        cases h3
        have := ih (fun o ho => hp o (by simp [ho])) h2
        have e : eqV v .non = p o := by
          rw [Bool.eq_iff_iff, hp o (by simp)]
          generalize f o = d at h1
          cases d <;> simp [flD] at h1 <;> subst h1 <;> simp [eqV]
        unfold inV at this ⊢
        rw [List.any_cons, List.any_cons, this, e]
    rw [key hp h1]
end DL

namespace DL.K46
open PySem L2 PySem.Spec PyProof.Rows
def top (i : Nat) : Stmt := PySem.Challenge.pw_openlines_k46_bodies_written.main.body.getD i (.Pass ⟨0, 0, 0, 0⟩)
section
variable {P : Program} {w : World} {K : PySem.W.Frag} {mg : Str → Option Value} {base : Heap}
/-! is_name: 0 thing -/
abbrev s_is_name : Stmt := top 4
theorem sc_is_name : FnScope ["thing"] ["thing"] (defScope s_is_name) := ⟨rfl, rfl, rfl, by decide +kernel, rfl, by decide +kernel, by decide +kernel⟩
def B_is_name : Env → OutS := (sSeq (sIf (bOr (bNot (bTr (settled (eCB gIsi (aCons (eVar 0) (aCons (eC (.any (.ty "str"))) aNil)))))) (bBl (eOp gGtU (settled (eCB gLenU (aCons (eVar 0) aNil))) (eC (.int 8))))) (sRet (eC (.bl false))) sNext)
  (sRet (eAnd (eM0 (fun a => .bl (Txt.isascii a)) (eVar 0)) (eAnd (eM0 (fun a => .bl (Txt.isalpha a)) (eVar 0)) (eM0 (fun a => .bl (Txt.islower a)) (eVar 0))))))
def F_is_name : List Slot → OutF := funF 1 1 B_is_name
theorem ok_is_name {f : Addr} {fd : FuncData} (Fn : Fun K "is_name" "is_name" s_is_name f fd) {t_MOST_LETTERS : Tok} (c_MOST_LETTERS : mg "MOST_LETTERS" = some (.int 8 t_MOST_LETTERS)) (b_isinstance : mg "isinstance" = none) (b_len : mg "len" = none) (b_str : mg "str" = none) : FnOk P w K mg base (L2.CX P w) 1 f fd ["thing"] (spD K mg 1 F_is_name) := by
  refine Fn.okX sc_is_name (fun vs H Q E h => h.1) (fun cdv A outer s H vs Q E hr h => ?_)
  have tk : Takes (cxOf (L2.CX P w) P w K mg base ["thing"] "is_name" (defScope s_is_name) f cdv A outer s H E) (fun cls d _ H => E cls d H) := takes_of rfl rfl rfl rfl
  have po : PassesOwn (model P w) (A.deeper (envOfC "is_name" (defScope s_is_name) s.heap.objs.size f cdv)) (envOfC "is_name" (defScope s_is_name) s.heap.objs.size f cdv) (cxOf (L2.CX P w) P w K mg base ["thing"] "is_name" (defScope s_is_name) f cdv A outer s H E).xe := passes_of rfl
  exact ⟨_, (pss_cons (ps_if (PW.pt (pw_or (pt_not (pt_tr (pe_callB call_isi (by rfl) b_isinstance (by decide +kernel) (pa_cons (pv 0) (pa_cons (pe_bltn (v := .ty "str") (by rfl) b_str (by decide +kernel) rfl) pa_nil))))) (pw_or1 (pt_cmpR op_gtU (pe_callB call_lenU (by rfl) b_len (by decide +kernel) (pa_cons (pv 0) pa_nil)) (pe_glob (v := .int 8) rfl c_MOST_LETTERS ⟨_, rfl⟩) (nomark _))))) (pss_one (ps_ret pe_bl)) pss_nil)
  (pss_one (ps_ret (pe_and (pe_m0 PySem.F.slot_str_isascii PySem.F.type_str_isascii mt_isascii (pv 0)) (pe_and (pe_m0 PySem.F.slot_str_isalpha PySem.F.type_str_isalpha mt_isalpha (pv 0)) (pe_one (pe_m0 PySem.F.slot_str_islower PySem.F.type_str_islower mt_islower (pv 0)))))))),
  sem_fn (sem_seq (sem_ifS (sem_bOr (sem_bNot (sem_tr (sem_settle (sem_cB cs_isi (sem_cons (sem_var (i := 0)) (sem_cons sem_any sem_nil)))))) (sem_test (sem_op os_gtU (sem_settle (sem_cB cs_lenU (sem_cons (sem_var (i := 0)) sem_nil))) sem_int))) (sem_ret (SemD.e sem_bl)) sem_next)
  (sem_ret (sem_and (sem_m0 (f := Txt.isascii) (sem_var (i := 0))) (sem_and (sem_m0 (f := Txt.isalpha) (sem_var (i := 0))) (sem_m0 (f := Txt.islower) (sem_var (i := 0))))))) rfl (by decide) h⟩
/-! show_body: 0 body, 1 row -/
abbrev s_show_body : Stmt := top 10
theorem sc_show_body : FnScope ["body", "row"] ["body"] (defScope s_show_body) := ⟨rfl, rfl, rfl, by decide +kernel, rfl, by decide +kernel, by decide +kernel⟩
def X1_show_body : Env → Out EV := (eLc (srcV (eVar 0)) (gN 1) (fun env => .val true env) (eM1 gJoin (eC (.str " ")) (eVar 1)) [1])
def B_show_body : Env → OutS := (sRet (eOrT (eM1 gJoin (eC (.str ", ")) (settled X1_show_body)) (eC (.str "-"))))
def F_show_body : List Slot → OutF := funF 1 2 B_show_body
theorem ok_show_body {f : Addr} {fd : FuncData} (Fn : Fun K "show_body" "show_body" s_show_body f fd) {t_DASH : Tok} (c_DASH : mg "DASH" = some (.str "-" t_DASH)) : FnOk P w K mg base (L2.CX P w) 1 f fd ["body"] (spD K mg 1 F_show_body) := by
  refine Fn.okX sc_show_body (fun vs H Q E h => h.1) (fun cdv A outer s H vs Q E hr h => ?_)
  have tk : Takes (cxOf (L2.CX P w) P w K mg base ["body", "row"] "show_body" (defScope s_show_body) f cdv A outer s H E) (fun cls d _ H => E cls d H) := takes_of rfl rfl rfl rfl
  have po : PassesOwn (model P w) (A.deeper (envOfC "show_body" (defScope s_show_body) s.heap.objs.size f cdv)) (envOfC "show_body" (defScope s_show_body) s.heap.objs.size f cdv) (cxOf (L2.CX P w) P w K mg base ["body", "row"] "show_body" (defScope s_show_body) f cdv A outer s H E).xe := passes_of rfl
  exact ⟨_, (pss_one (ps_ret (pe_orT (pe_join pe_str (pe_lc (own := [("row", 1)]) (g := gName 1) rfl sc_show_body.nd (pi_seq (pv 0)) (blkOk_by (own := [("row", 1)]) (by with_unfolding_all rfl)) (fun _ _ _ _ _ => (pg_name (i := 1) sc_show_body.nd rfl (by first | exact Or.inl rfl | exact Or.inr rfl))) (fun _ _ _ _ _ => pts_nil) (fun _ _ _ _ _ => (pe_join pe_str (pv 1))))) (pe_one (pe_glob (v := .str "-") rfl c_DASH ⟨_, rfl⟩))))),
  sem_fn (sem_ret (sem_orT (sem_m1 ms_join sem_str (sem_settle (sem_lc (vs := [1]) (sem_seqI (sem_var (i := 0))) sem_gName (keeps_name (by decide)) sem_yes (sem_m1 ms_join sem_str (sem_var (i := 1)))))) (SemD.e sem_str))) rfl (by decide) h⟩
/-! _law_bag: 0 _law_script, 1 _law_at, 2 _law_cell, 3 _law_digits -/
abbrev s__law_bag : Stmt := top 13
theorem sc__law_bag : FnScope ["_law_script", "_law_at", "_law_cell", "_law_digits"] ["_law_script", "_law_at"] (defScope s__law_bag) := ⟨rfl, rfl, rfl, by decide +kernel, rfl, by decide +kernel, by decide +kernel⟩
def B__law_bag : Env → OutS := (sSeq (sAsg (eIf (bBl (eOp (gB fun i j => decide (i < j)) (eVar 1) (settled (eCB gLenU (aCons (eVar 0) aNil))))) (eOp gIx (eVar 0) (eVar 1)) (eC (.int 0))) (gN 2))
  (sSeq (sAsg (eIf (bBl (eOp (gB fun i j => decide (j ≤ i)) (settled (eCB gAbs (aCons (eVar 2) aNil))) (settled (eOp (gIC CPow fun i j => i ^ j.toNat) (eC (.int 10)) (eC (.int 18)))))) (eCB gAbs (aCons (eVar 2) aNil)) (eC (.int 0))) (gN 3))
  (sRet (eLst (aCons (eVar 3) (aCons (settled (eOp (gIC (fun _ j => j ≠ 0) fun i j => i.fmod j) (settled (eOp (gIC CPow fun i j => i ^ j.toNat) (settled (eOp gAddU (settled (eOp gAddU (settled (eOp (gIC (fun _ j => j ≠ 0) fun i j => i.fmod j) (eVar 2) (eC (.int 2147483647)))) (settled (eOp gMulU (eC (.int 7121)) (eVar 1))))) (eC (.int 11)))) (eC (.int 3)))) (eC (.int 2147483629)))) (aCons (eC (.int 0)) aNil)))))))
def F__law_bag : List Slot → OutF := funF 2 4 B__law_bag
theorem ok__law_bag {f : Addr} {fd : FuncData} (Fn : Fun K "_law_bag" "_law_bag" s__law_bag f fd) (b_abs : mg "abs" = none) (b_len : mg "len" = none) : FnOk P w K mg base (L2.CX P w) 1 f fd ["_law_script", "_law_at"] (spD K mg 2 F__law_bag) := by
  refine Fn.okX sc__law_bag (fun vs H Q E h => h.1) (fun cdv A outer s H vs Q E hr h => ?_)
  have tk : Takes (cxOf (L2.CX P w) P w K mg base ["_law_script", "_law_at", "_law_cell", "_law_digits"] "_law_bag" (defScope s__law_bag) f cdv A outer s H E) (fun cls d _ H => E cls d H) := takes_of rfl rfl rfl rfl
  have po : PassesOwn (model P w) (A.deeper (envOfC "_law_bag" (defScope s__law_bag) s.heap.objs.size f cdv)) (envOfC "_law_bag" (defScope s__law_bag) s.heap.objs.size f cdv) (cxOf (L2.CX P w) P w K mg base ["_law_script", "_law_at", "_law_cell", "_law_digits"] "_law_bag" (defScope s__law_bag) f cdv A outer s H E).xe := passes_of rfl
  exact ⟨_, (pss_cons (ps_set (i := 2) sc__law_bag.nd rfl (Or.inl rfl) (pe_ifExp (pt_cmpR op_lt (pv 1) (pe_callB call_lenU (by rfl) b_len (by decide +kernel) (pa_cons (pv 0) pa_nil)) (nomark _)) (pe_ix (ix_U (hu_of hr)) (pv 0) (pv 1) (fun _ _ => rfl)) pe_int))
  (pss_cons (ps_set (i := 3) sc__law_bag.nd rfl (Or.inl rfl) (pe_ifExp (pt_cmpR op_ge (pe_callB call_abs (by rfl) b_abs (by decide +kernel) (pa_cons (pv 2) pa_nil)) (pe_op op_pow pe_int pe_int) (nomark _)) (pe_callB call_abs (by rfl) b_abs (by decide +kernel) (pa_cons (pv 2) pa_nil)) pe_int))
  (pss_one (ps_ret (pe_lst (pa_cons (pv 3) (pa_cons (pe_op op_modN (pe_op op_pow (pe_op op_addU (pe_op op_addU (pe_op op_modN (pv 2) pe_int) (pe_op op_mulU pe_int (pv 1))) pe_int) pe_int) pe_int) (pa_cons pe_int pa_nil)))))))),
  sem_fn (sem_seq (sem_set (i := 2) (sem_if (sem_test (sem_op os_B (sem_var (i := 1)) (sem_settle (sem_cB cs_lenU (sem_cons (sem_var (i := 0)) sem_nil))))) (sem_op os_ix (sem_var (i := 0)) (sem_var (i := 1))) (SemD.e sem_int)))
  (sem_seq (sem_set (i := 3) (sem_if (sem_test (sem_op os_B (sem_settle (sem_cB cs_abs (sem_cons (sem_var (i := 2)) sem_nil))) (sem_settle (sem_op os_IC sem_int sem_int)))) (sem_cB cs_abs (sem_cons (sem_var (i := 2)) sem_nil)) (SemD.e sem_int)))
  (sem_ret (sem_lst (sem_cons (sem_var (i := 3)) (sem_cons (sem_settle (sem_op os_IC (sem_settle (sem_op os_IC (sem_settle (sem_op os_addU (sem_settle (sem_op os_addU (sem_settle (sem_op os_IC (sem_var (i := 2)) sem_int)) (sem_settle (sem_op os_mulU sem_int (sem_var (i := 1)))))) sem_int)) sem_int)) sem_int)) (sem_cons sem_int sem_nil))))))) rfl (by decide) h⟩
/-! _law_take: 0 _law_bag_here, 1 _law_many, 2 _law_digit -/
abbrev s__law_take : Stmt := top 14
theorem sc__law_take : FnScope ["_law_bag_here", "_law_many", "_law_digit"] ["_law_bag_here", "_law_many"] (defScope s__law_take) := ⟨rfl, rfl, rfl, by decide +kernel, rfl, by decide +kernel, by decide +kernel⟩
def B__law_take : Env → OutS := (sSeq (sIf (bBl (eOp gGtU (settled (eOp gIx (eVar 0) (eC (.int 0)))) (eC (.int 0)))) (sSeq (sAsg (eOp (gIC (fun _ j => j ≠ 0) fun i j => i.fmod j) (settled (eOp gIx (eVar 0) (eC (.int 0)))) (eVar 1)) (gN 2))
  (sSeq (sSetL (eOp (gIC CDivN fun i j => i.fdiv j) (settled (eOp gIx (eVar 0) (eC (.int 0)))) (eVar 1)) (eVar 0) (eC (.int 0)))
  (sRet (eVar 2)))) sNext)
  (sSeq (sSetL (eOp gAddU (settled (eOp gIx (eVar 0) (eC (.int 2)))) (eC (.int 1))) (eVar 0) (eC (.int 2)))
  (sSeq (sSetL (eOp (gIC (fun _ j => j ≠ 0) fun i j => i.fmod j) (settled (eOp gAddU (settled (eOp gAddU (settled (eOp gMulU (settled (eOp gIx (eVar 0) (eC (.int 1)))) (eC (.int 48271)))) (settled (eOp gMulU (settled (eOp gMulU (eC (.int 6607)) (settled (eOp gIx (eVar 0) (eC (.int 2)))))) (settled (eOp gIx (eVar 0) (eC (.int 2)))))))) (eC (.int 5)))) (eC (.int 2147483647))) (eVar 0) (eC (.int 1)))
  (sRet (eOp (gIC (fun _ j => j ≠ 0) fun i j => i.fmod j) (settled (eOp (gIC (fun _ j => j ≠ 0) fun i j => i.fmod j) (settled (eOp (gIC CPow fun i j => i ^ j.toNat) (settled (eOp (gIC CDivN fun i j => i.fdiv j) (settled (eOp gIx (eVar 0) (eC (.int 1)))) (eC (.int 16)))) (eC (.int 3)))) (eC (.int 2147483587)))) (eVar 1))))))
def F__law_take : List Slot → OutF := funF 2 3 B__law_take
theorem ok__law_take {f : Addr} {fd : FuncData} (Fn : Fun K "_law_take" "_law_take" s__law_take f fd) : FnOk P w K mg base (L2.CX P w) 1 f fd ["_law_bag_here", "_law_many"] (spD K mg 2 F__law_take) := by
  refine Fn.okX sc__law_take (fun vs H Q E h => h.1) (fun cdv A outer s H vs Q E hr h => ?_)
  have tk : Takes (cxOf (L2.CX P w) P w K mg base ["_law_bag_here", "_law_many", "_law_digit"] "_law_take" (defScope s__law_take) f cdv A outer s H E) (fun cls d _ H => E cls d H) := takes_of rfl rfl rfl rfl
  have po : PassesOwn (model P w) (A.deeper (envOfC "_law_take" (defScope s__law_take) s.heap.objs.size f cdv)) (envOfC "_law_take" (defScope s__law_take) s.heap.objs.size f cdv) (cxOf (L2.CX P w) P w K mg base ["_law_bag_here", "_law_many", "_law_digit"] "_law_take" (defScope s__law_take) f cdv A outer s H E).xe := passes_of rfl
  exact ⟨_, (pss_cons (ps_if (pt_cmpR op_gtU (pe_ix (ix_U (hu_of hr)) (pv 0) pe_int (fun _ _ => rfl)) pe_int (nomark _)) (pss_cons (ps_set (i := 2) sc__law_take.nd rfl (Or.inl rfl) (pe_op op_modN (pe_ix (ix_U (hu_of hr)) (pv 0) pe_int (fun _ _ => rfl)) (pv 1)))
  (pss_cons (ps_asg (pe_op op_fdivN (pe_ix (ix_U (hu_of hr)) (pv 0) pe_int (fun _ _ => rfl)) (pv 1)) (pg_sub (pv 0) pe_int set_list))
  (pss_one (ps_ret (pv 2))))) pss_nil)
  (pss_cons (ps_asg (pe_op op_addU (pe_ix (ix_U (hu_of hr)) (pv 0) pe_int (fun _ _ => rfl)) pe_int) (pg_sub (pv 0) pe_int set_list))
  (pss_cons (ps_asg (pe_op op_modN (pe_op op_addU (pe_op op_addU (pe_op op_mulU (pe_ix (ix_U (hu_of hr)) (pv 0) pe_int (fun _ _ => rfl)) pe_int) (pe_op op_mulU (pe_op op_mulU pe_int (pe_ix (ix_U (hu_of hr)) (pv 0) pe_int (fun _ _ => rfl))) (pe_ix (ix_U (hu_of hr)) (pv 0) pe_int (fun _ _ => rfl)))) pe_int) pe_int) (pg_sub (pv 0) pe_int set_list))
  (pss_one (ps_ret (pe_op op_modN (pe_op op_modN (pe_op op_pow (pe_op op_fdivN (pe_ix (ix_U (hu_of hr)) (pv 0) pe_int (fun _ _ => rfl)) pe_int) pe_int) pe_int) (pv 1))))))),
  sem_fn (sem_seq (sem_ifS (sem_test (sem_op os_gtU (sem_settle (sem_op os_ix (sem_var (i := 0)) sem_int)) sem_int)) (sem_seq (sem_set (i := 2) (sem_op os_IC (sem_settle (sem_op os_ix (sem_var (i := 0)) sem_int)) (sem_var (i := 1))))
  (sem_seq (sem_setL (sem_op os_IC (sem_settle (sem_op os_ix (sem_var (i := 0)) sem_int)) (sem_var (i := 1))) (sem_var (i := 0)) sem_int)
  (sem_ret (SemD.e (sem_var (i := 2)))))) sem_next)
  (sem_seq (sem_setL (sem_op os_addU (sem_settle (sem_op os_ix (sem_var (i := 0)) sem_int)) sem_int) (sem_var (i := 0)) sem_int)
  (sem_seq (sem_setL (sem_op os_IC (sem_settle (sem_op os_addU (sem_settle (sem_op os_addU (sem_settle (sem_op os_mulU (sem_settle (sem_op os_ix (sem_var (i := 0)) sem_int)) sem_int)) (sem_settle (sem_op os_mulU (sem_settle (sem_op os_mulU sem_int (sem_settle (sem_op os_ix (sem_var (i := 0)) sem_int)))) (sem_settle (sem_op os_ix (sem_var (i := 0)) sem_int)))))) sem_int)) sem_int) (sem_var (i := 0)) sem_int)
  (sem_ret (sem_op os_IC (sem_settle (sem_op os_IC (sem_settle (sem_op os_IC (sem_settle (sem_op os_IC (sem_settle (sem_op os_ix (sem_var (i := 0)) sem_int)) sem_int)) sem_int)) sem_int)) (sem_var (i := 1))))))) rfl (by decide) h⟩
/-! _law_written: 0 _law_rows, 1 _law_words, 2 _law_row_here -/
abbrev s__law_written : Stmt := top 18
theorem sc__law_written : FnScope ["_law_rows", "_law_words", "_law_row_here"] ["_law_rows"] (defScope s__law_written) := ⟨rfl, rfl, rfl, by decide +kernel, rfl, by decide +kernel, by decide +kernel⟩
def Y1__law_written : Env → OutS := (fun env => ((eBmL gAppend (eVar 1) (aCons (settled (eIf (bBl (eOp gEqU (settled (eCB gLenU (aCons (eVar 2) aNil))) (eC (.int 1)))) (eOp gIx (eVar 2) (eC (.int 0))) (eOp gAddU (settled (eOp gAddU (settled (eOp gIx (eVar 2) (eC (.int 0)))) (eC (.str " ")))) (settled (eOp gIx (eVar 2) (eC (.int 1))))))) aNil)) env).toS fun _ e => .next e)
def X1__law_written : Env → OutS := (sFor (srcV (eVar 0)) (gN 2) Y1__law_written)
def B__law_written : Env → OutS := (sSeq (sAsg (eLst aNil) (gN 1))
  (sSeq X1__law_written
  (sRet (eIf (bBl (eOp gNeU (eVar 1) (settled (eLst aNil)))) (eM1 gJoin (eC (.str ", ")) (eVar 1)) (eC (.str "-"))))))
def F__law_written : List Slot → OutF := funF 1 3 B__law_written
theorem ok__law_written {f : Addr} {fd : FuncData} (Fn : Fun K "_law_written" "_law_written" s__law_written f fd) (b_len : mg "len" = none) : FnOk P w K mg base (L2.CX P w) 1 f fd ["_law_rows"] (spD K mg 1 F__law_written) := by
  refine Fn.okX sc__law_written (fun vs H Q E h => h.1) (fun cdv A outer s H vs Q E hr h => ?_)
  have tk : Takes (cxOf (L2.CX P w) P w K mg base ["_law_rows", "_law_words", "_law_row_here"] "_law_written" (defScope s__law_written) f cdv A outer s H E) (fun cls d _ H => E cls d H) := takes_of rfl rfl rfl rfl
  have po : PassesOwn (model P w) (A.deeper (envOfC "_law_written" (defScope s__law_written) s.heap.objs.size f cdv)) (envOfC "_law_written" (defScope s__law_written) s.heap.objs.size f cdv) (cxOf (L2.CX P w) P w K mg base ["_law_rows", "_law_words", "_law_row_here"] "_law_written" (defScope s__law_written) f cdv A outer s H E).xe := passes_of rfl
  exact ⟨_, (pss_cons (ps_set (i := 1) sc__law_written.nd rfl (Or.inl rfl) (pe_lst pa_nil))
  (pss_cons (ps_for po rfl (pi_seq (pv 0)) (pg_name (i := 2) sc__law_written.nd rfl (Or.inl rfl))
  (pss_one (ps_expr (pe_bm PySem.F.plainAttrs_list PySem.F.slot_list_append PySem.F.type_list_append mt_append (pv 1) (pa_cons (pe_ifExp (pt_cmpR (op_eqU hr.units) (pe_callB call_lenU (by rfl) b_len (by decide +kernel) (pa_cons (pv 2) pa_nil)) pe_int (nomark _)) (pe_ix (ix_U (hu_of hr)) (pv 2) pe_int (fun _ _ => rfl)) (pe_op op_addU (pe_op op_addU (pe_ix (ix_U (hu_of hr)) (pv 2) pe_int (fun _ _ => rfl)) pe_str) (pe_ix (ix_U (hu_of hr)) (pv 2) pe_int (fun _ _ => rfl)))) pa_nil)))))
  (pss_one (ps_ret (pe_ifExp (pt_cmpR (op_neU hr.units) (pv 1) (pe_lst pa_nil) (nomark _)) (pe_join pe_str (pv 1)) pe_str))))),
  sem_fn (sem_seq (sem_set (i := 1) (sem_lst sem_nil))
  (sem_seq (sem_forN (sem_seqI (sem_var (i := 0))) (sem_drop (SemD.e (sem_bmL mtl_append (sem_var (i := 1)) (sem_cons (sem_settle (sem_if (sem_test (sem_op os_eqU (sem_settle (sem_cB cs_lenU (sem_cons (sem_var (i := 2)) sem_nil))) sem_int)) (sem_op os_ix (sem_var (i := 2)) sem_int) (sem_op os_addU (sem_settle (sem_op os_addU (sem_settle (sem_op os_ix (sem_var (i := 2)) sem_int)) sem_str)) (sem_settle (sem_op os_ix (sem_var (i := 2)) sem_int))))) sem_nil)))))
  (sem_ret (sem_if (sem_test (sem_op os_neU (sem_var (i := 1)) (sem_settle (sem_lst sem_nil)))) (sem_m1 ms_join sem_str (sem_var (i := 1))) (SemD.e sem_str))))) rfl (by decide) h⟩
/-! _law_is_name: 0 _law_word, 1 _law_sign -/
abbrev s__law_is_name : Stmt := top 19
theorem sc__law_is_name : FnScope ["_law_word", "_law_sign"] ["_law_word"] (defScope s__law_is_name) := ⟨rfl, rfl, rfl, by decide +kernel, rfl, by decide +kernel, by decide +kernel⟩
def X1__law_is_name : Env → Out EV := (eLc (srcS (eVar 0)) (gN 1) (fun env => .val true env) (eOp gInU (eVar 1) (eC (.str "abcdefghijklmnopqrstuvwxyz"))) [1])
def B__law_is_name : Env → OutS := (sRet (eAnd (eChain (gB fun i j => decide (i ≤ j)) (gB fun i j => decide (i ≤ j)) (eC (.int 1)) (settled (eCB gLenU (aCons (eVar 0) aNil))) (eC (.int 8))) (eCB gAll (aCons (settled X1__law_is_name) aNil))))
def F__law_is_name : List Slot → OutF := funF 1 2 B__law_is_name
theorem ok__law_is_name {f : Addr} {fd : FuncData} (Fn : Fun K "_law_is_name" "_law_is_name" s__law_is_name f fd) (b_all : mg "all" = none) (b_len : mg "len" = none) : FnOk P w K mg base (L2.CX P w) 1 f fd ["_law_word"] (spD K mg 1 F__law_is_name) := by
  refine Fn.okX sc__law_is_name (fun vs H Q E h => h.1) (fun cdv A outer s H vs Q E hr h => ?_)
  have tk : Takes (cxOf (L2.CX P w) P w K mg base ["_law_word", "_law_sign"] "_law_is_name" (defScope s__law_is_name) f cdv A outer s H E) (fun cls d _ H => E cls d H) := takes_of rfl rfl rfl rfl
  have po : PassesOwn (model P w) (A.deeper (envOfC "_law_is_name" (defScope s__law_is_name) s.heap.objs.size f cdv)) (envOfC "_law_is_name" (defScope s__law_is_name) s.heap.objs.size f cdv) (cxOf (L2.CX P w) P w K mg base ["_law_word", "_law_sign"] "_law_is_name" (defScope s__law_is_name) f cdv A outer s H E).xe := passes_of rfl
  exact ⟨_, (pss_one (ps_ret (pe_and (pe_chain op_le op_le pe_int (pe_callB call_lenU (by rfl) b_len (by decide +kernel) (pa_cons (pv 0) pa_nil)) pe_int) (pe_one (pe_callB (cr_all rfl) (by rfl) b_all (by decide +kernel) (pa_cons (pe_lc (own := [("_law_sign", 1)]) (g := gName 1) rfl sc__law_is_name.nd (pi_str (pv 0)) (blkOk_by (own := [("_law_sign", 1)]) (by with_unfolding_all rfl)) (fun _ _ _ _ _ => (pg_name (i := 1) sc__law_is_name.nd rfl (by first | exact Or.inl rfl | exact Or.inr rfl))) (fun _ _ _ _ _ => pts_nil) (fun _ _ _ _ _ => (pe_cmpR (op_inU (room65 hr)) (pv 1) pe_str rfl))) pa_nil)))))),
  sem_fn (sem_ret (sem_and (sem_chain os_B os_B sem_int (sem_settle (sem_cB cs_lenU (sem_cons (sem_var (i := 0)) sem_nil))) sem_int) (sem_cB cs_all (sem_cons (sem_settle (sem_lc (vs := [1]) (sem_strI (sem_var (i := 0))) sem_gName (keeps_name (by decide)) sem_yes (sem_op os_inU (sem_var (i := 1)) sem_str))) sem_nil)))) rfl (by decide) h⟩
/-! is_row: 0 call, 1 thing, 2 word, 3 name -/
abbrev s_is_row : Stmt := top 7
theorem sc_is_row : FnScope ["call", "thing", "word", "name"] ["call", "thing"] (defScope s_is_row) := ⟨rfl, rfl, rfl, by decide +kernel, rfl, by decide +kernel, by decide +kernel⟩
def B_is_row : Env → OutS := (sSeq (sIf (bNot (bTr (settled (eCB gIsi (aCons (eVar 1) (aCons (eC (.any (.ty "tuple"))) aNil)))))) (sRet (eC (.bl false))) sNext)
  (sSeq (sIf (bBl (eOp gEqU (settled (eCB gLenU (aCons (eVar 1) aNil))) (eC (.int 1)))) (sRet (eOp gEqU (settled (eOp gIx (eVar 1) (eC (.int 0)))) (eC (.str "next")))) sNext)
  (sSeq (sIf (bBl (eOp gNeU (settled (eCB gLenU (aCons (eVar 1) aNil))) (eC (.int 2)))) (sRet (eC (.bl false))) sNext)
  (sSeq (sAsg (eVar 1) (gT 2 (gsCons (gN 2) (gsCons (gN 3) gsNil))))
  (sSeq (sIf (bBl (eOp gEqU (eVar 2) (eC (.str "say")))) (sRet (eCall 1 F_is_name (aCons (eVar 3) aNil))) sNext)
  (sRet (eAnd (eOp gEqU (eVar 2) (eC (.str "call"))) (eAnd (eCall 1 F_is_name (aCons (eVar 3) aNil)) (eOp gGtU (eVar 3) (eVar 0))))))))))
def F_is_row : List Slot → OutF := funF 2 4 B_is_row
theorem ok_is_row {f : Addr} {fd : FuncData} (Fn : Fun K "is_row" "is_row" s_is_row f fd) (D_is_name : Def P w K mg base "is_name" 1 ["thing"] 1 F_is_name) (b_isinstance : mg "isinstance" = none) (b_len : mg "len" = none) (b_tuple : mg "tuple" = none) : FnOk P w K mg base (L2.CX P w) 2 f fd ["call", "thing"] (spD K mg 2 F_is_row) := by
  obtain ⟨f_is_name, fd_is_name, m_is_name, kp_is_name, bd_is_name, G_is_name⟩ := D_is_name
  refine Fn.okX sc_is_row (fun vs H Q E h => h.1) (fun cdv A outer s H vs Q E hr h => ?_)
  have tk : Takes (cxOf (L2.CX P w) P w K mg base ["call", "thing", "word", "name"] "is_row" (defScope s_is_row) f cdv A outer s H E) (fun cls d _ H => E cls d H) := takes_of rfl rfl rfl rfl
  have po : PassesOwn (model P w) (A.deeper (envOfC "is_row" (defScope s_is_row) s.heap.objs.size f cdv)) (envOfC "is_row" (defScope s_is_row) s.heap.objs.size f cdv) (cxOf (L2.CX P w) P w K mg base ["call", "thing", "word", "name"] "is_row" (defScope s_is_row) f cdv A outer s H E).xe := passes_of rfl
  exact ⟨_, (pss_cons (ps_if (pt_not (pt_tr (pe_callB call_isi (by rfl) b_isinstance (by decide +kernel) (pa_cons (pv 1) (pa_cons (pe_bltn (v := .ty "tuple") (by rfl) b_tuple (by decide +kernel) rfl) pa_nil))))) (pss_one (ps_ret pe_bl)) pss_nil)
  (pss_cons (ps_if (pt_cmpR (op_eqU hr.units) (pe_callB call_lenU (by rfl) b_len (by decide +kernel) (pa_cons (pv 1) pa_nil)) pe_int (nomark _)) (pss_one (ps_ret (pe_cmpR (op_eqU hr.units) (pe_ix (ix_U (hu_of hr)) (pv 1) pe_int (fun _ _ => rfl)) pe_str (nomark _)))) pss_nil)
  (pss_cons (ps_if (pt_cmpR (op_neU hr.units) (pe_callB call_lenU (by rfl) b_len (by decide +kernel) (pa_cons (pv 1) pa_nil)) pe_int (nomark _)) (pss_one (ps_ret pe_bl)) pss_nil)
  (pss_cons (ps_asg (pv 1) (pg_tup rfl (pgs_cons (pg_name (i := 2) sc_is_row.nd rfl (Or.inl rfl)) (pgs_cons (pg_name (i := 3) sc_is_row.nd rfl (Or.inl rfl)) pgs_nil))))
  (pss_cons (ps_if (pt_cmpR (op_eqU hr.units) (pv 2) pe_str (nomark _)) (pss_one (ps_ret (pe_own tk G_is_name (hr.mono (by decide)) m_is_name kp_is_name bd_is_name (pa_cons (pv 3) pa_nil)))) pss_nil)
  (pss_one (ps_ret (pe_and (pe_cmpR (op_eqU hr.units) (pv 2) pe_str (nomark _)) (pe_and (pe_own tk G_is_name (hr.mono (by decide)) m_is_name kp_is_name bd_is_name (pa_cons (pv 3) pa_nil)) (pe_one (pe_cmpR op_gtU (pv 3) (pv 0) (nomark _)))))))))))),
  sem_fn (sem_seq (sem_ifS (sem_bNot (sem_tr (sem_settle (sem_cB cs_isi (sem_cons (sem_var (i := 1)) (sem_cons sem_any sem_nil)))))) (sem_ret (SemD.e sem_bl)) sem_next)
  (sem_seq (sem_ifS (sem_test (sem_op os_eqU (sem_settle (sem_cB cs_lenU (sem_cons (sem_var (i := 1)) sem_nil))) sem_int)) (sem_ret (sem_op os_eqU (sem_settle (sem_op os_ix (sem_var (i := 1)) sem_int)) sem_str)) sem_next)
  (sem_seq (sem_ifS (sem_test (sem_op os_neU (sem_settle (sem_cB cs_lenU (sem_cons (sem_var (i := 1)) sem_nil))) sem_int)) (sem_ret (SemD.e sem_bl)) sem_next)
  (sem_seq (sem_set2 (SemD.e (sem_var (i := 1))))
  (sem_seq (sem_ifS (sem_test (sem_op os_eqU (sem_var (i := 2)) sem_str)) (sem_ret (sem_call (np := 1) (F := F_is_name) rfl (sem_cons (sem_var (i := 3)) sem_nil))) sem_next)
  (sem_ret (sem_and (sem_op os_eqU (sem_var (i := 2)) sem_str) (sem_and (sem_call (np := 1) (F := F_is_name) rfl (sem_cons (sem_var (i := 3)) sem_nil)) (sem_op os_gtU (sem_var (i := 3)) (sem_var (i := 0))))))))))) rfl (by decide) h⟩
/-! _law_names: 0 _law_bag_here, 1 _law_many, 2 _law_letters, 3 _law_size, 4 _law_spot, 5 _law_first, 6 _law_base, 7 _law_own, 8 _law_k, 9 _law_one -/
abbrev s__law_names : Stmt := top 15
theorem sc__law_names : FnScope ["_law_bag_here", "_law_many", "_law_letters", "_law_size", "_law_spot", "_law_first", "_law_base", "_law_own", "_law_k", "_law_one"] ["_law_bag_here", "_law_many"] (defScope s__law_names) := ⟨rfl, rfl, rfl, by decide +kernel, rfl, by decide +kernel, by decide +kernel⟩
def X1__law_names : Env → Out EV := (eLc (srcR1 (aCons (eVar 3) aNil)) (gN 8) (fun env => .val true env) (eOp gIx (eVar 2) (settled (eCall 2 F__law_take (aCons (eVar 0) (aCons (eC (.int 26)) aNil))))) [8])
def X2__law_names : Env → Out EV := (eLc (srcR1 (aCons (eVar 1) aNil)) (gN 8) (fun env => .val true env) (eOp gIx (eVar 2) (settled (eOp (gIC (fun _ j => j ≠ 0) fun i j => i.fmod j) (settled (eOp gAddU (eVar 5) (settled (eOp gMulU (eC (.int 7)) (eVar 8))))) (eC (.int 26))))) [8])
def X3__law_names : Env → Out EV := (eLc (srcV (eVar 7)) (gN 9) (fun env => .val true env) (eIf (bBl (eOp gEqU (eVar 4) (eC (.int 0)))) (eOp gAddU (eVar 6) (eVar 9)) (eOp gAddU (eVar 9) (eVar 6))) [9])
def B__law_names : Env → OutS := (sSeq (sAsg (eC (.str "abcdefghijklmnopqrstuvwxyz")) (gN 2))
  (sSeq (sAsg (eTup (aCons (settled (eOp gIx (eTup (aCons (eC (.int 0)) (aCons (eC (.int 0)) (aCons (eC (.int 1)) (aCons (eC (.int 3)) (aCons (eC (.int 7)) aNil)))))) (settled (eCall 2 F__law_take (aCons (eVar 0) (aCons (eC (.int 5)) aNil)))))) (aCons (settled (eCall 2 F__law_take (aCons (eVar 0) (aCons (eC (.int 2)) aNil)))) aNil))) (gT 2 (gsCons (gN 3) (gsCons (gN 4) gsNil))))
  (sSeq (sAsg (eTup (aCons (settled (eCall 2 F__law_take (aCons (eVar 0) (aCons (eC (.int 26)) aNil)))) (aCons (settled (eM1 gJoin (eC (.str "")) (settled X1__law_names))) aNil))) (gT 2 (gsCons (gN 5) (gsCons (gN 6) gsNil))))
  (sSeq (sAsg X2__law_names (gN 7))
  (sRet X3__law_names)))))
def F__law_names : List Slot → OutF := funF 2 10 B__law_names
theorem ok__law_names {f : Addr} {fd : FuncData} (Fn : Fun K "_law_names" "_law_names" s__law_names f fd) (D__law_take : Def P w K mg base "_law_take" 1 ["_law_bag_here", "_law_many"] 2 F__law_take) (b_range : mg "range" = none) : FnOk P w K mg base (L2.CX P w) 2 f fd ["_law_bag_here", "_law_many"] (spD K mg 2 F__law_names) := by
  obtain ⟨f__law_take, fd__law_take, m__law_take, kp__law_take, bd__law_take, G__law_take⟩ := D__law_take
  refine Fn.okX sc__law_names (fun vs H Q E h => h.1) (fun cdv A outer s H vs Q E hr h => ?_)
  have tk : Takes (cxOf (L2.CX P w) P w K mg base ["_law_bag_here", "_law_many", "_law_letters", "_law_size", "_law_spot", "_law_first", "_law_base", "_law_own", "_law_k", "_law_one"] "_law_names" (defScope s__law_names) f cdv A outer s H E) (fun cls d _ H => E cls d H) := takes_of rfl rfl rfl rfl
  have po : PassesOwn (model P w) (A.deeper (envOfC "_law_names" (defScope s__law_names) s.heap.objs.size f cdv)) (envOfC "_law_names" (defScope s__law_names) s.heap.objs.size f cdv) (cxOf (L2.CX P w) P w K mg base ["_law_bag_here", "_law_many", "_law_letters", "_law_size", "_law_spot", "_law_first", "_law_base", "_law_own", "_law_k", "_law_one"] "_law_names" (defScope s__law_names) f cdv A outer s H E).xe := passes_of rfl
  exact ⟨_, (pss_cons (ps_set (i := 2) sc__law_names.nd rfl (Or.inr rfl) pe_str)
  (pss_cons (ps_asg (pe_tupG (pa_cons (pe_ix (ix_U (hu_of hr)) (pe_tupG (pa_cons pe_int (pa_cons pe_int (pa_cons pe_int (pa_cons pe_int (pa_cons pe_int pa_nil)))))) (pe_own tk G__law_take (hr.mono (by decide)) m__law_take kp__law_take bd__law_take (pa_cons (pv 0) (pa_cons pe_int pa_nil))) (fun _ _ => rfl)) (pa_cons (pe_own tk G__law_take (hr.mono (by decide)) m__law_take kp__law_take bd__law_take (pa_cons (pv 0) (pa_cons pe_int pa_nil))) pa_nil))) (pg_tup rfl (pgs_cons (pg_name (i := 3) sc__law_names.nd rfl (Or.inl rfl)) (pgs_cons (pg_name (i := 4) sc__law_names.nd rfl (Or.inr rfl)) pgs_nil))))
  (pss_cons (ps_asg (pe_tupG (pa_cons (pe_own tk G__law_take (hr.mono (by decide)) m__law_take kp__law_take bd__law_take (pa_cons (pv 0) (pa_cons pe_int pa_nil))) (pa_cons (pe_join pe_str (pe_lc (own := [("_law_k", 8)]) (g := gName 8) rfl sc__law_names.nd (pi_range1 rfl b_range (pa_cons (pv 3) pa_nil)) (blkOk_by (own := [("_law_k", 8)]) (by with_unfolding_all rfl)) (fun _ _ _ _ _ => (pg_name (i := 8) sc__law_names.nd rfl (by first | exact Or.inl rfl | exact Or.inr rfl))) (fun _ _ _ _ _ => pts_nil) (fun _ _ _ _ _ => (pe_ix (ix_U (hu_of hr)) (pv 2) (pe_own takes0 G__law_take (hr.mono (by decide)) m__law_take kp__law_take bd__law_take (pa_cons (pv 0) (pa_cons pe_int pa_nil))) (fun _ _ => rfl))))) pa_nil))) (pg_tup rfl (pgs_cons (pg_name (i := 5) sc__law_names.nd rfl (Or.inr rfl)) (pgs_cons (pg_name (i := 6) sc__law_names.nd rfl (Or.inr rfl)) pgs_nil))))
  (pss_cons (ps_setLc (i := 7) (own := [("_law_k", 8)]) (g := gName 8) rfl sc__law_names.nd rfl rfl (sw_true rfl rfl rfl (by decide +kernel)) (pi_range1 rfl b_range (pa_cons (pv 1) pa_nil)) (blkOk_by (own := [("_law_k", 8)]) (by with_unfolding_all rfl)) (fun _ _ _ _ _ => (pg_name (i := 8) sc__law_names.nd rfl (by first | exact Or.inl rfl | exact Or.inr rfl))) (fun _ _ _ _ _ => pts_nil) (fun _ _ _ _ _ => (pe_ix (ix_U (hu_of hr)) (pv 2) (pe_op op_modN (pe_op op_addU (pv 5) (pe_op op_mulU pe_int (pv 8))) pe_int) (fun _ _ => rfl))))
  (pss_one (ps_ret (pe_lc (own := [("_law_one", 9)]) (g := gName 9) rfl sc__law_names.nd (pi_seq (pv 7)) (blkOk_by (own := [("_law_one", 9)]) (by with_unfolding_all rfl)) (fun _ _ _ _ _ => (pg_name (i := 9) sc__law_names.nd rfl (by first | exact Or.inl rfl | exact Or.inr rfl))) (fun _ _ _ _ _ => pts_nil) (fun _ _ _ _ _ => (pe_ifExp (pt_cmpR (op_eqU hr.units) (pv 4) pe_int (nomark _)) (pe_op op_addU (pv 6) (pv 9)) (pe_op op_addU (pv 9) (pv 6))))))))))),
  sem_fn (sem_seq (sem_set (i := 2) (SemD.e sem_str))
  (sem_seq (sem_set2 (SemD.e (sem_tup (sem_cons (sem_settle (sem_op os_ix (sem_tup (sem_cons sem_int (sem_cons sem_int (sem_cons sem_int (sem_cons sem_int (sem_cons sem_int sem_nil)))))) (sem_settle (sem_call (np := 2) (F := F__law_take) rfl (sem_cons (sem_var (i := 0)) (sem_cons sem_int sem_nil)))))) (sem_cons (sem_settle (sem_call (np := 2) (F := F__law_take) rfl (sem_cons (sem_var (i := 0)) (sem_cons sem_int sem_nil)))) sem_nil)))))
  (sem_seq (sem_set2 (SemD.e (sem_tup (sem_cons (sem_settle (sem_call (np := 2) (F := F__law_take) rfl (sem_cons (sem_var (i := 0)) (sem_cons sem_int sem_nil)))) (sem_cons (sem_settle (sem_m1 ms_join sem_str (sem_settle (sem_lc (vs := [8]) (sem_range1 (sem_cons (sem_var (i := 3)) sem_nil)) sem_gName (keeps_name (by decide)) sem_yes (sem_op os_ix (sem_var (i := 2)) (sem_settle (sem_call (np := 2) (F := F__law_take) rfl (sem_cons (sem_var (i := 0)) (sem_cons sem_int sem_nil))))))))) sem_nil)))))
  (sem_seq (sem_set (i := 7) (sem_lc (vs := [8]) (sem_range1 (sem_cons (sem_var (i := 1)) sem_nil)) sem_gName (keeps_name (by decide)) sem_yes (sem_op os_ix (sem_var (i := 2)) (sem_settle (sem_op os_IC (sem_settle (sem_op os_addU (sem_var (i := 5)) (sem_settle (sem_op os_mulU sem_int (sem_var (i := 8)))))) sem_int)))))
  (sem_ret (sem_lc (vs := [9]) (sem_seqI (sem_var (i := 7))) sem_gName (keeps_name (by decide)) sem_yes (sem_if (sem_test (sem_op os_eqU (sem_var (i := 4)) sem_int)) (sem_op os_addU (sem_var (i := 6)) (sem_var (i := 9))) (sem_op os_addU (sem_var (i := 9)) (sem_var (i := 6)))))))))) rfl (by decide) h⟩
/-! _law_body: 0 _law_bag_here, 1 _law_call, 2 _law_calls, 3 _law_words, 4 _law_later, 5 _law_rows, 6 _law_turn, 7 _law_way, 8 _law_one -/
abbrev s__law_body : Stmt := top 16
theorem sc__law_body : FnScope ["_law_bag_here", "_law_call", "_law_calls", "_law_words", "_law_later", "_law_rows", "_law_turn", "_law_way", "_law_one"] ["_law_bag_here", "_law_call", "_law_calls", "_law_words"] (defScope s__law_body) := ⟨rfl, rfl, rfl, by decide +kernel, rfl, by decide +kernel, by decide +kernel⟩
def X1__law_body : Env → Out EV := (eLc (srcV (eVar 2)) (gN 8) (bBl (eOp gGtU (eVar 8) (eVar 1))) (eVar 8) [8])
def Y2__law_body : Env → OutS := (sSeq (sAsg (eCall 2 F__law_take (aCons (eVar 0) (aCons (eC (.int 5)) aNil))) (gN 7))
  (sIf (bBl (eOp (gB fun i j => decide (i < j)) (eVar 7) (eC (.int 2)))) (fun env => ((eBmL gAppend (eVar 5) (aCons (eTup (aCons (eC (.str "next")) aNil)) aNil)) env).toS fun _ e => .next e) (sIf (bAnd (bBl (eOp gEqU (eVar 7) (eC (.int 2)))) (bBl (eOp gNeU (eVar 4) (settled (eLst aNil))))) (fun env => ((eBmL gAppend (eVar 5) (aCons (eTup (aCons (eC (.str "call")) (aCons (settled (eOp gIx (eVar 4) (settled (eCall 2 F__law_take (aCons (eVar 0) (aCons (settled (eCB gLenU (aCons (eVar 4) aNil))) aNil)))))) aNil))) aNil)) env).toS fun _ e => .next e) (fun env => ((eBmL gAppend (eVar 5) (aCons (eTup (aCons (eC (.str "say")) (aCons (settled (eOp gIx (eVar 3) (settled (eCall 2 F__law_take (aCons (eVar 0) (aCons (settled (eCB gLenU (aCons (eVar 3) aNil))) aNil)))))) aNil))) aNil)) env).toS fun _ e => .next e))))
def X2__law_body : Env → OutS := (sFor (srcR1 (aCons (settled (eCall 2 F__law_take (aCons (eVar 0) (aCons (eC (.int 5)) aNil)))) aNil)) (gN 6) Y2__law_body)
def B__law_body : Env → OutS := (sSeq (sPar2 4 5 X1__law_body (eLst aNil))
  (sSeq X2__law_body
  (sRet (eCB gTuple (aCons (eVar 5) aNil)))))
def F__law_body : List Slot → OutF := funF 4 9 B__law_body
theorem ok__law_body {f : Addr} {fd : FuncData} (Fn : Fun K "_law_body" "_law_body" s__law_body f fd) (D__law_take : Def P w K mg base "_law_take" 1 ["_law_bag_here", "_law_many"] 2 F__law_take) (b_len : mg "len" = none) (b_range : mg "range" = none) (b_tuple : mg "tuple" = none) : FnOk P w K mg base (L2.CX P w) 2 f fd ["_law_bag_here", "_law_call", "_law_calls", "_law_words"] (spD K mg 4 F__law_body) := by
  obtain ⟨f__law_take, fd__law_take, m__law_take, kp__law_take, bd__law_take, G__law_take⟩ := D__law_take
  refine Fn.okX sc__law_body (fun vs H Q E h => h.1) (fun cdv A outer s H vs Q E hr h => ?_)
  have tk : Takes (cxOf (L2.CX P w) P w K mg base ["_law_bag_here", "_law_call", "_law_calls", "_law_words", "_law_later", "_law_rows", "_law_turn", "_law_way", "_law_one"] "_law_body" (defScope s__law_body) f cdv A outer s H E) (fun cls d _ H => E cls d H) := takes_of rfl rfl rfl rfl
  have po : PassesOwn (model P w) (A.deeper (envOfC "_law_body" (defScope s__law_body) s.heap.objs.size f cdv)) (envOfC "_law_body" (defScope s__law_body) s.heap.objs.size f cdv) (cxOf (L2.CX P w) P w K mg base ["_law_bag_here", "_law_call", "_law_calls", "_law_words", "_law_later", "_law_rows", "_law_turn", "_law_way", "_law_one"] "_law_body" (defScope s__law_body) f cdv A outer s H E).xe := passes_of rfl
  exact ⟨_, (pss_cons (ps_par (i := 4) (j := 5) (by rfl) sc__law_body.nd rfl rfl (by decide) rfl rfl (pa_cons (pe_lc (own := [("_law_one", 8)]) (g := gName 8) rfl sc__law_body.nd (pi_seq (pv 2)) (blkOk_by (own := [("_law_one", 8)]) (by with_unfolding_all rfl)) (fun _ _ _ _ _ => (pg_name (i := 8) sc__law_body.nd rfl (by first | exact Or.inl rfl | exact Or.inr rfl))) (fun _ _ _ _ _ => (pts_one (pt_cmpR op_gtU (pv 8) (pv 1) (nomark _)))) (fun _ _ _ _ _ => (pv 8))) (pa_cons (pe_lst pa_nil) pa_nil)) (by rfl))
  (pss_cons (ps_for po rfl (pi_range1 rfl b_range (pa_cons (pe_own tk G__law_take (hr.mono (by decide)) m__law_take kp__law_take bd__law_take (pa_cons (pv 0) (pa_cons pe_int pa_nil))) pa_nil)) (pg_name (i := 6) sc__law_body.nd rfl (Or.inl rfl))
  (pss_cons (ps_set (i := 7) sc__law_body.nd rfl (Or.inl rfl) (pe_own tk G__law_take (hr.mono (by decide)) m__law_take kp__law_take bd__law_take (pa_cons (pv 0) (pa_cons pe_int pa_nil))))
  (pss_one (ps_if (pt_cmpR op_lt (pv 7) pe_int (nomark _)) (pss_one (ps_expr (pe_bm PySem.F.plainAttrs_list PySem.F.slot_list_append PySem.F.type_list_append mt_append (pv 5) (pa_cons (pe_tupG (pa_cons pe_str pa_nil)) pa_nil)))) (pss_one (ps_if (PW.pt (pw_and (pt_cmpR (op_eqU hr.units) (pv 7) pe_int (nomark _)) (pw_and1 (pt_cmpR (op_neU hr.units) (pv 4) (pe_lst pa_nil) (nomark _))))) (pss_one (ps_expr (pe_bm PySem.F.plainAttrs_list PySem.F.slot_list_append PySem.F.type_list_append mt_append (pv 5) (pa_cons (pe_tupG (pa_cons pe_str (pa_cons (pe_ix (ix_U (hu_of hr)) (pv 4) (pe_own tk G__law_take (hr.mono (by decide)) m__law_take kp__law_take bd__law_take (pa_cons (pv 0) (pa_cons (pe_callB call_lenU (by rfl) b_len (by decide +kernel) (pa_cons (pv 4) pa_nil)) pa_nil))) (fun _ _ => rfl)) pa_nil))) pa_nil)))) (pss_one (ps_expr (pe_bm PySem.F.plainAttrs_list PySem.F.slot_list_append PySem.F.type_list_append mt_append (pv 5) (pa_cons (pe_tupG (pa_cons pe_str (pa_cons (pe_ix (ix_U (hu_of hr)) (pv 3) (pe_own tk G__law_take (hr.mono (by decide)) m__law_take kp__law_take bd__law_take (pa_cons (pv 0) (pa_cons (pe_callB call_lenU (by rfl) b_len (by decide +kernel) (pa_cons (pv 3) pa_nil)) pa_nil))) (fun _ _ => rfl)) pa_nil))) pa_nil))))))))))
  (pss_one (ps_ret (pe_callTy call_tupG (by rfl) b_tuple (by decide +kernel) (pa_cons (pv 5) pa_nil)))))),
  sem_fn (sem_seq (sem_par2 (sem_lc (vs := [8]) (sem_seqI (sem_var (i := 2))) sem_gName (keeps_name (by decide)) (sem_test (sem_op os_gtU (sem_var (i := 8)) (sem_var (i := 1)))) (SemD.e (sem_var (i := 8)))) (sem_lst sem_nil))
  (sem_seq (sem_forN (sem_range1 (sem_cons (sem_settle (sem_call (np := 2) (F := F__law_take) rfl (sem_cons (sem_var (i := 0)) (sem_cons sem_int sem_nil)))) sem_nil)) (sem_seq (sem_set (i := 7) (sem_call (np := 2) (F := F__law_take) rfl (sem_cons (sem_var (i := 0)) (sem_cons sem_int sem_nil))))
  (sem_ifS (sem_test (sem_op os_B (sem_var (i := 7)) sem_int)) (sem_drop (SemD.e (sem_bmL mtl_append (sem_var (i := 5)) (sem_cons (sem_tup (sem_cons sem_str sem_nil)) sem_nil)))) (sem_ifS (sem_bAnd (sem_test (sem_op os_eqU (sem_var (i := 7)) sem_int)) (sem_test (sem_op os_neU (sem_var (i := 4)) (sem_settle (sem_lst sem_nil))))) (sem_drop (SemD.e (sem_bmL mtl_append (sem_var (i := 5)) (sem_cons (sem_tup (sem_cons sem_str (sem_cons (sem_settle (sem_op os_ix (sem_var (i := 4)) (sem_settle (sem_call (np := 2) (F := F__law_take) rfl (sem_cons (sem_var (i := 0)) (sem_cons (sem_settle (sem_cB cs_lenU (sem_cons (sem_var (i := 4)) sem_nil))) sem_nil)))))) sem_nil))) sem_nil)))) (sem_drop (SemD.e (sem_bmL mtl_append (sem_var (i := 5)) (sem_cons (sem_tup (sem_cons sem_str (sem_cons (sem_settle (sem_op os_ix (sem_var (i := 3)) (sem_settle (sem_call (np := 2) (F := F__law_take) rfl (sem_cons (sem_var (i := 0)) (sem_cons (sem_settle (sem_cB cs_lenU (sem_cons (sem_var (i := 3)) sem_nil))) sem_nil)))))) sem_nil))) sem_nil))))))))
  (sem_ret (sem_cB cs_tuple (sem_cons (sem_var (i := 5)) sem_nil))))) rfl (by decide) h⟩
/-! _law_odd_names: 0 _law_bag_here, 1 _law_names_here, 2 _law_words, 3 _law_at -/
abbrev s__law_odd_names : Stmt := top 17
theorem sc__law_odd_names : FnScope ["_law_bag_here", "_law_names_here", "_law_words", "_law_at"] ["_law_bag_here", "_law_names_here"] (defScope s__law_odd_names) := ⟨rfl, rfl, rfl, by decide +kernel, rfl, by decide +kernel, by decide +kernel⟩
def B__law_odd_names : Env → OutS := (sSeq (sAsg (eLst (aCons (eC (.str "kind")) (aCons (eC (.str "body")) (aCons (eC (.str "say")) (aCons (eC (.str "next")) (aCons (eC (.str "call")) (aCons (eC (.str "none")) (aCons (eC (.str "add")) (aCons (eC (.str "drop")) (aCons (eC (.str "undo")) (aCons (eC (.str "make")) (aCons (eC (.str "ok")) aNil)))))))))))) (gN 2))
  (sSeq (sIf (bBl (eOp gGtU (settled (eCall 2 F__law_take (aCons (eVar 0) (aCons (eC (.int 3)) aNil)))) (eC (.int 0)))) (sRet (eVar 1)) sNext)
  (sSeq (sAsg (eCall 2 F__law_take (aCons (eVar 0) (aCons (eC (.int 11)) aNil))) (gN 3))
  (sRet (eSl (settled (eOp gAddU (settled (eSl (eVar 2) (oPart (eVar 3)) oNone)) (settled (eSl (eVar 2) oNone (oPart (eVar 3)))))) oNone (oPart (eCB gLenU (aCons (eVar 1) aNil))))))))
def F__law_odd_names : List Slot → OutF := funF 2 4 B__law_odd_names
theorem ok__law_odd_names {f : Addr} {fd : FuncData} (Fn : Fun K "_law_odd_names" "_law_odd_names" s__law_odd_names f fd) (D__law_take : Def P w K mg base "_law_take" 1 ["_law_bag_here", "_law_many"] 2 F__law_take) (b_len : mg "len" = none) : FnOk P w K mg base (L2.CX P w) 2 f fd ["_law_bag_here", "_law_names_here"] (spD K mg 2 F__law_odd_names) := by
  obtain ⟨f__law_take, fd__law_take, m__law_take, kp__law_take, bd__law_take, G__law_take⟩ := D__law_take
  refine Fn.okX sc__law_odd_names (fun vs H Q E h => h.1) (fun cdv A outer s H vs Q E hr h => ?_)
  have tk : Takes (cxOf (L2.CX P w) P w K mg base ["_law_bag_here", "_law_names_here", "_law_words", "_law_at"] "_law_odd_names" (defScope s__law_odd_names) f cdv A outer s H E) (fun cls d _ H => E cls d H) := takes_of rfl rfl rfl rfl
  have po : PassesOwn (model P w) (A.deeper (envOfC "_law_odd_names" (defScope s__law_odd_names) s.heap.objs.size f cdv)) (envOfC "_law_odd_names" (defScope s__law_odd_names) s.heap.objs.size f cdv) (cxOf (L2.CX P w) P w K mg base ["_law_bag_here", "_law_names_here", "_law_words", "_law_at"] "_law_odd_names" (defScope s__law_odd_names) f cdv A outer s H E).xe := passes_of rfl
  exact ⟨_, (pss_cons (ps_set (i := 2) sc__law_odd_names.nd rfl (Or.inl rfl) (pe_lst (pa_cons pe_str (pa_cons pe_str (pa_cons pe_str (pa_cons pe_str (pa_cons pe_str (pa_cons pe_str (pa_cons pe_str (pa_cons pe_str (pa_cons pe_str (pa_cons pe_str (pa_cons pe_str pa_nil)))))))))))))
  (pss_cons (ps_if (pt_cmpR op_gtU (pe_own tk G__law_take (hr.mono (by decide)) m__law_take kp__law_take bd__law_take (pa_cons (pv 0) (pa_cons pe_int pa_nil))) pe_int (nomark _)) (pss_one (ps_ret (pv 1))) pss_nil)
  (pss_cons (ps_set (i := 3) sc__law_odd_names.nd rfl (Or.inl rfl) (pe_own tk G__law_take (hr.mono (by decide)) m__law_take kp__law_take bd__law_take (pa_cons (pv 0) (pa_cons pe_int pa_nil))))
  (pss_one (ps_ret (pe_slice sl_U (pe_op op_addU (pe_slice sl_U (pv 2) (po_some (pv 3)) po_none) (pe_slice sl_U (pv 2) po_none (po_some (pv 3)))) po_none (po_some (pe_callB call_lenU (by rfl) b_len (by decide +kernel) (pa_cons (pv 1) pa_nil))))))))),
  sem_fn (sem_seq (sem_set (i := 2) (sem_lst (sem_cons sem_str (sem_cons sem_str (sem_cons sem_str (sem_cons sem_str (sem_cons sem_str (sem_cons sem_str (sem_cons sem_str (sem_cons sem_str (sem_cons sem_str (sem_cons sem_str (sem_cons sem_str sem_nil)))))))))))))
  (sem_seq (sem_ifS (sem_test (sem_op os_gtU (sem_settle (sem_call (np := 2) (F := F__law_take) rfl (sem_cons (sem_var (i := 0)) (sem_cons sem_int sem_nil)))) sem_int)) (sem_ret (SemD.e (sem_var (i := 1)))) sem_next)
  (sem_seq (sem_set (i := 3) (sem_call (np := 2) (F := F__law_take) rfl (sem_cons (sem_var (i := 0)) (sem_cons sem_int sem_nil))))
  (sem_ret (sem_sl (sem_settle (sem_op os_addU (sem_settle (sem_sl (sem_var (i := 2)) (sem_oPart (SemD.e (sem_var (i := 3)))) sem_oNone)) (sem_settle (sem_sl (sem_var (i := 2)) sem_oNone (sem_oPart (SemD.e (sem_var (i := 3)))))))) sem_oNone (sem_oPart (sem_cB cs_lenU (sem_cons (sem_var (i := 1)) sem_nil)))))))) rfl (by decide) h⟩
/-! _law_row: 0 _law_call, 1 _law_word -/
abbrev s__law_row : Stmt := top 20
theorem sc__law_row : FnScope ["_law_call", "_law_word"] ["_law_call", "_law_word"] (defScope s__law_row) := ⟨rfl, rfl, rfl, by decide +kernel, rfl, by decide +kernel, by decide +kernel⟩
def B__law_row : Env → OutS := (sSeq (sIf (bBl (eOp gEqU (eVar 1) (eC (.str "next")))) (sRet (eTup (aCons (eC (.str "next")) aNil))) sNext)
  (sSeq (sIf (bAnd (bBl (eOp gEqU (settled (eSl (eVar 1) oNone (oPart (eC (.int 4))))) (eC (.str "say ")))) (bTr (settled (eCall 1 F__law_is_name (aCons (settled (eSl (eVar 1) (oPart (eC (.int 4))) oNone)) aNil))))) (sRet (eTup (aCons (eC (.str "say")) (aCons (settled (eSl (eVar 1) (oPart (eC (.int 4))) oNone)) aNil)))) sNext)
  (sSeq (sIf (bAnd (bBl (eOp gEqU (settled (eSl (eVar 1) oNone (oPart (eC (.int 5))))) (eC (.str "call ")))) (bAnd (bTr (settled (eCall 1 F__law_is_name (aCons (settled (eSl (eVar 1) (oPart (eC (.int 5))) oNone)) aNil)))) (bBl (eOp gGtU (settled (eSl (eVar 1) (oPart (eC (.int 5))) oNone)) (eVar 0))))) (sRet (eTup (aCons (eC (.str "call")) (aCons (settled (eSl (eVar 1) (oPart (eC (.int 5))) oNone)) aNil)))) sNext)
  (sRet (eC .non)))))
def F__law_row : List Slot → OutF := funF 2 2 B__law_row
theorem ok__law_row {f : Addr} {fd : FuncData} (Fn : Fun K "_law_row" "_law_row" s__law_row f fd) (D__law_is_name : Def P w K mg base "_law_is_name" 1 ["_law_word"] 1 F__law_is_name) : FnOk P w K mg base (L2.CX P w) 2 f fd ["_law_call", "_law_word"] (spD K mg 2 F__law_row) := by
  obtain ⟨f__law_is_name, fd__law_is_name, m__law_is_name, kp__law_is_name, bd__law_is_name, G__law_is_name⟩ := D__law_is_name
  refine Fn.okX sc__law_row (fun vs H Q E h => h.1) (fun cdv A outer s H vs Q E hr h => ?_)
  have tk : Takes (cxOf (L2.CX P w) P w K mg base ["_law_call", "_law_word"] "_law_row" (defScope s__law_row) f cdv A outer s H E) (fun cls d _ H => E cls d H) := takes_of rfl rfl rfl rfl
  have po : PassesOwn (model P w) (A.deeper (envOfC "_law_row" (defScope s__law_row) s.heap.objs.size f cdv)) (envOfC "_law_row" (defScope s__law_row) s.heap.objs.size f cdv) (cxOf (L2.CX P w) P w K mg base ["_law_call", "_law_word"] "_law_row" (defScope s__law_row) f cdv A outer s H E).xe := passes_of rfl
  exact ⟨_, (pss_cons (ps_if (pt_cmpR (op_eqU hr.units) (pv 1) pe_str (nomark _)) (pss_one (ps_ret (pe_tupG (pa_cons pe_str pa_nil)))) pss_nil)
  (pss_cons (ps_if (PW.pt (pw_and (pt_cmpR (op_eqU hr.units) (pe_slice sl_U (pv 1) po_none (po_some pe_int)) pe_str (nomark _)) (pw_and1 (pt_tr (pe_own tk G__law_is_name (hr.mono (by decide)) m__law_is_name kp__law_is_name bd__law_is_name (pa_cons (pe_slice sl_U (pv 1) (po_some pe_int) po_none) pa_nil)))))) (pss_one (ps_ret (pe_tupG (pa_cons pe_str (pa_cons (pe_slice sl_U (pv 1) (po_some pe_int) po_none) pa_nil))))) pss_nil)
  (pss_cons (ps_if (PW.pt (pw_and (pt_cmpR (op_eqU hr.units) (pe_slice sl_U (pv 1) po_none (po_some pe_int)) pe_str (nomark _)) (pw_and (pt_tr (pe_own tk G__law_is_name (hr.mono (by decide)) m__law_is_name kp__law_is_name bd__law_is_name (pa_cons (pe_slice sl_U (pv 1) (po_some pe_int) po_none) pa_nil))) (pw_and1 (pt_cmpR op_gtU (pe_slice sl_U (pv 1) (po_some pe_int) po_none) (pv 0) (nomark _)))))) (pss_one (ps_ret (pe_tupG (pa_cons pe_str (pa_cons (pe_slice sl_U (pv 1) (po_some pe_int) po_none) pa_nil))))) pss_nil)
  (pss_one (ps_ret pe_non))))),
  sem_fn (sem_seq (sem_ifS (sem_test (sem_op os_eqU (sem_var (i := 1)) sem_str)) (sem_ret (SemD.e (sem_tup (sem_cons sem_str sem_nil)))) sem_next)
  (sem_seq (sem_ifS (sem_bAnd (sem_test (sem_op os_eqU (sem_settle (sem_sl (sem_var (i := 1)) sem_oNone (sem_oPart (SemD.e sem_int)))) sem_str)) (sem_tr (sem_settle (sem_call (np := 1) (F := F__law_is_name) rfl (sem_cons (sem_settle (sem_sl (sem_var (i := 1)) (sem_oPart (SemD.e sem_int)) sem_oNone)) sem_nil))))) (sem_ret (SemD.e (sem_tup (sem_cons sem_str (sem_cons (sem_settle (sem_sl (sem_var (i := 1)) (sem_oPart (SemD.e sem_int)) sem_oNone)) sem_nil))))) sem_next)
  (sem_seq (sem_ifS (sem_bAnd (sem_test (sem_op os_eqU (sem_settle (sem_sl (sem_var (i := 1)) sem_oNone (sem_oPart (SemD.e sem_int)))) sem_str)) (sem_bAnd (sem_tr (sem_settle (sem_call (np := 1) (F := F__law_is_name) rfl (sem_cons (sem_settle (sem_sl (sem_var (i := 1)) (sem_oPart (SemD.e sem_int)) sem_oNone)) sem_nil)))) (sem_test (sem_op os_gtU (sem_settle (sem_sl (sem_var (i := 1)) (sem_oPart (SemD.e sem_int)) sem_oNone)) (sem_var (i := 0)))))) (sem_ret (SemD.e (sem_tup (sem_cons sem_str (sem_cons (sem_settle (sem_sl (sem_var (i := 1)) (sem_oPart (SemD.e sem_int)) sem_oNone)) sem_nil))))) sem_next)
  (sem_ret (SemD.e sem_non))))) rfl (by decide) h⟩
/-! _law_bent: 0 _law_bag_here, 1 _law_text, 2 _law_way, 3 _law_at, 4 _law_sign, 5 _law_gap, 6 _law_some, 7 _law_far -/
abbrev s__law_bent : Stmt := top 23
theorem sc__law_bent : FnScope ["_law_bag_here", "_law_text", "_law_way", "_law_at", "_law_sign", "_law_gap", "_law_some", "_law_far"] ["_law_bag_here", "_law_text"] (defScope s__law_bent) := ⟨rfl, rfl, rfl, by decide +kernel, rfl, by decide +kernel, by decide +kernel⟩
def B__law_bent : Env → OutS := (sSeq (sPar2 2 3 (eCall 2 F__law_take (aCons (eVar 0) (aCons (eC (.int 6)) aNil))) (eCall 2 F__law_take (aCons (eVar 0) (aCons (settled (eOp gAddU (settled (eCB gLenU (aCons (eVar 1) aNil))) (eC (.int 1)))) aNil))))
  (sSeq (sIf (bBl (eOp (gB fun i j => decide (i < j)) (eVar 2) (eC (.int 3)))) (sSeq (sAsg (eOp gIx (eC (.str " ,-ansyA\n")) (settled (eCall 2 F__law_take (aCons (eVar 0) (aCons (eC (.int 9)) aNil))))) (gN 4))
  (sRet (eOp gIx (eTup (aCons (settled (eOp gAddU (settled (eOp gAddU (settled (eSl (eVar 1) oNone (oPart (eVar 3)))) (eVar 4))) (settled (eSl (eVar 1) (oPart (eVar 3)) oNone)))) (aCons (settled (eOp gAddU (settled (eSl (eVar 1) oNone (oPart (eVar 3)))) (settled (eSl (eVar 1) (oPart (eOp gAddU (eVar 3) (eC (.int 1)))) oNone)))) (aCons (settled (eOp gAddU (settled (eOp gAddU (settled (eSl (eVar 1) oNone (oPart (eVar 3)))) (eVar 4))) (settled (eSl (eVar 1) (oPart (eOp gAddU (eVar 3) (eC (.int 1)))) oNone)))) aNil)))) (eVar 2)))) sNext)
  (sSeq (sAsg (eOp gIx (eTup (aCons (eC (.str ", ")) (aCons (eC (.str " ")) (aCons (eC (.str ", ")) aNil)))) (settled (eOp (gI fun i j => i - j) (eVar 2) (eC (.int 3))))) (gN 5))
  (sSeq (sAsg (eM1 gSplit (eVar 1) (eVar 5)) (gN 6))
  (sSeq (sPar2 3 7 (eCall 2 F__law_take (aCons (eVar 0) (aCons (settled (eCB gLenU (aCons (eVar 6) aNil))) aNil))) (eCall 2 F__law_take (aCons (eVar 0) (aCons (settled (eCB gLenU (aCons (eVar 6) aNil))) aNil))))
  (sSeq (sAsg (eTup (aCons (settled (eOp gIx (eVar 6) (eVar 7))) (aCons (settled (eOp gIx (eVar 6) (eVar 3))) aNil))) (gT 2 (gsCons (gSetL (eVar 6) (eVar 3)) (gsCons (gSetL (eVar 6) (eVar 7)) gsNil))))
  (sRet (eM1 gJoin (eVar 5) (settled (eOp gAddU (settled (eOp gAddU (settled (eSl (eVar 6) oNone (oPart (eVar 3)))) (settled (eOp gMulU (settled (eSl (eVar 6) (oPart (eVar 3)) (oPart (eOp gAddU (eVar 3) (eC (.int 1)))))) (settled (eCall 2 F__law_take (aCons (eVar 0) (aCons (eC (.int 3)) aNil)))))))) (settled (eSl (eVar 6) (oPart (eOp gAddU (eVar 3) (eC (.int 1)))) oNone))))))))))))
def F__law_bent : List Slot → OutF := funF 2 8 B__law_bent
theorem ok__law_bent {f : Addr} {fd : FuncData} (Fn : Fun K "_law_bent" "_law_bent" s__law_bent f fd) (D__law_take : Def P w K mg base "_law_take" 1 ["_law_bag_here", "_law_many"] 2 F__law_take) (b_len : mg "len" = none) : FnOk P w K mg base (L2.CX P w) 2 f fd ["_law_bag_here", "_law_text"] (spD K mg 2 F__law_bent) := by
  obtain ⟨f__law_take, fd__law_take, m__law_take, kp__law_take, bd__law_take, G__law_take⟩ := D__law_take
  refine Fn.okX sc__law_bent (fun vs H Q E h => h.1) (fun cdv A outer s H vs Q E hr h => ?_)
  have tk : Takes (cxOf (L2.CX P w) P w K mg base ["_law_bag_here", "_law_text", "_law_way", "_law_at", "_law_sign", "_law_gap", "_law_some", "_law_far"] "_law_bent" (defScope s__law_bent) f cdv A outer s H E) (fun cls d _ H => E cls d H) := takes_of rfl rfl rfl rfl
  have po : PassesOwn (model P w) (A.deeper (envOfC "_law_bent" (defScope s__law_bent) s.heap.objs.size f cdv)) (envOfC "_law_bent" (defScope s__law_bent) s.heap.objs.size f cdv) (cxOf (L2.CX P w) P w K mg base ["_law_bag_here", "_law_text", "_law_way", "_law_at", "_law_sign", "_law_gap", "_law_some", "_law_far"] "_law_bent" (defScope s__law_bent) f cdv A outer s H E).xe := passes_of rfl
  exact ⟨_, (pss_cons (ps_par (i := 2) (j := 3) (by rfl) sc__law_bent.nd rfl rfl (by decide) rfl rfl (pa_cons (pe_own tk G__law_take (hr.mono (by decide)) m__law_take kp__law_take bd__law_take (pa_cons (pv 0) (pa_cons pe_int pa_nil))) (pa_cons (pe_own tk G__law_take (hr.mono (by decide)) m__law_take kp__law_take bd__law_take (pa_cons (pv 0) (pa_cons (pe_op op_addU (pe_callB call_lenU (by rfl) b_len (by decide +kernel) (pa_cons (pv 1) pa_nil)) pe_int) pa_nil))) pa_nil)) (by rfl))
  (pss_cons (ps_if (pt_cmpR op_lt (pv 2) pe_int (nomark _)) (pss_cons (ps_set (i := 4) sc__law_bent.nd rfl (Or.inl rfl) (pe_ix (ix_U (hu_of hr)) pe_str (pe_own tk G__law_take (hr.mono (by decide)) m__law_take kp__law_take bd__law_take (pa_cons (pv 0) (pa_cons pe_int pa_nil))) (fun _ _ => rfl)))
  (pss_one (ps_ret (pe_ix (ix_U (hu_of hr)) (pe_tupG (pa_cons (pe_op op_addU (pe_op op_addU (pe_slice sl_U (pv 1) po_none (po_some (pv 3))) (pv 4)) (pe_slice sl_U (pv 1) (po_some (pv 3)) po_none)) (pa_cons (pe_op op_addU (pe_slice sl_U (pv 1) po_none (po_some (pv 3))) (pe_slice sl_U (pv 1) (po_some (pe_op op_addU (pv 3) pe_int)) po_none)) (pa_cons (pe_op op_addU (pe_op op_addU (pe_slice sl_U (pv 1) po_none (po_some (pv 3))) (pv 4)) (pe_slice sl_U (pv 1) (po_some (pe_op op_addU (pv 3) pe_int)) po_none)) pa_nil)))) (pv 2) (fun _ _ => rfl))))) pss_nil)
  (pss_cons (ps_set (i := 5) sc__law_bent.nd rfl (Or.inl rfl) (pe_ix (ix_U (hu_of hr)) (pe_tupG (pa_cons pe_str (pa_cons pe_str (pa_cons pe_str pa_nil)))) (pe_op op_sub (pv 2) pe_int) (fun _ _ => rfl)))
  (pss_cons (ps_set (i := 6) sc__law_bent.nd rfl (Or.inl rfl) (pe_split (pv 1) (pv 5)))
  (pss_cons (ps_par (i := 3) (j := 7) (by rfl) sc__law_bent.nd rfl rfl (by decide) rfl rfl (pa_cons (pe_own tk G__law_take (hr.mono (by decide)) m__law_take kp__law_take bd__law_take (pa_cons (pv 0) (pa_cons (pe_callB call_lenU (by rfl) b_len (by decide +kernel) (pa_cons (pv 6) pa_nil)) pa_nil))) (pa_cons (pe_own tk G__law_take (hr.mono (by decide)) m__law_take kp__law_take bd__law_take (pa_cons (pv 0) (pa_cons (pe_callB call_lenU (by rfl) b_len (by decide +kernel) (pa_cons (pv 6) pa_nil)) pa_nil))) pa_nil)) (by rfl))
  (pss_cons (ps_asg (pe_tupG (pa_cons (pe_ix (ix_U (hu_of hr)) (pv 6) (pv 7) (fun _ _ => rfl)) (pa_cons (pe_ix (ix_U (hu_of hr)) (pv 6) (pv 3) (fun _ _ => rfl)) pa_nil))) (pg_tup rfl (pgs_cons (pg_sub (pv 6) (pv 3) set_list) (pgs_cons (pg_sub (pv 6) (pv 7) set_list) pgs_nil))))
  (pss_one (ps_ret (pe_join (pv 5) (pe_op op_addU (pe_op op_addU (pe_slice sl_U (pv 6) po_none (po_some (pv 3))) (pe_op op_mulU (pe_slice sl_U (pv 6) (po_some (pv 3)) (po_some (pe_op op_addU (pv 3) pe_int))) (pe_own tk G__law_take (hr.mono (by decide)) m__law_take kp__law_take bd__law_take (pa_cons (pv 0) (pa_cons pe_int pa_nil))))) (pe_slice sl_U (pv 6) (po_some (pe_op op_addU (pv 3) pe_int)) po_none))))))))))),
  sem_fn (sem_seq (sem_par2 (sem_call (np := 2) (F := F__law_take) rfl (sem_cons (sem_var (i := 0)) (sem_cons sem_int sem_nil))) (sem_call (np := 2) (F := F__law_take) rfl (sem_cons (sem_var (i := 0)) (sem_cons (sem_settle (sem_op os_addU (sem_settle (sem_cB cs_lenU (sem_cons (sem_var (i := 1)) sem_nil))) sem_int)) sem_nil))))
  (sem_seq (sem_ifS (sem_test (sem_op os_B (sem_var (i := 2)) sem_int)) (sem_seq (sem_set (i := 4) (sem_op os_ix sem_str (sem_settle (sem_call (np := 2) (F := F__law_take) rfl (sem_cons (sem_var (i := 0)) (sem_cons sem_int sem_nil))))))
  (sem_ret (sem_op os_ix (sem_tup (sem_cons (sem_settle (sem_op os_addU (sem_settle (sem_op os_addU (sem_settle (sem_sl (sem_var (i := 1)) sem_oNone (sem_oPart (SemD.e (sem_var (i := 3)))))) (sem_var (i := 4)))) (sem_settle (sem_sl (sem_var (i := 1)) (sem_oPart (SemD.e (sem_var (i := 3)))) sem_oNone)))) (sem_cons (sem_settle (sem_op os_addU (sem_settle (sem_sl (sem_var (i := 1)) sem_oNone (sem_oPart (SemD.e (sem_var (i := 3)))))) (sem_settle (sem_sl (sem_var (i := 1)) (sem_oPart (sem_op os_addU (sem_var (i := 3)) sem_int)) sem_oNone)))) (sem_cons (sem_settle (sem_op os_addU (sem_settle (sem_op os_addU (sem_settle (sem_sl (sem_var (i := 1)) sem_oNone (sem_oPart (SemD.e (sem_var (i := 3)))))) (sem_var (i := 4)))) (sem_settle (sem_sl (sem_var (i := 1)) (sem_oPart (sem_op os_addU (sem_var (i := 3)) sem_int)) sem_oNone)))) sem_nil)))) (sem_var (i := 2))))) sem_next)
  (sem_seq (sem_set (i := 5) (sem_op os_ix (sem_tup (sem_cons sem_str (sem_cons sem_str (sem_cons sem_str sem_nil)))) (sem_settle (sem_op os_I (sem_var (i := 2)) sem_int))))
  (sem_seq (sem_set (i := 6) (sem_m1 ms_split (sem_var (i := 1)) (sem_var (i := 5))))
  (sem_seq (sem_par2 (sem_call (np := 2) (F := F__law_take) rfl (sem_cons (sem_var (i := 0)) (sem_cons (sem_settle (sem_cB cs_lenU (sem_cons (sem_var (i := 6)) sem_nil))) sem_nil))) (sem_call (np := 2) (F := F__law_take) rfl (sem_cons (sem_var (i := 0)) (sem_cons (sem_settle (sem_cB cs_lenU (sem_cons (sem_var (i := 6)) sem_nil))) sem_nil))))
  (sem_seq (sem_asgC (SemD.e (sem_tup (sem_cons (sem_settle (sem_op os_ix (sem_var (i := 6)) (sem_var (i := 7)))) (sem_cons (sem_settle (sem_op os_ix (sem_var (i := 6)) (sem_var (i := 3)))) sem_nil)))) (sem_gTup (sem_gsCons (sem_gSetL (sem_var (i := 6)) (sem_var (i := 3))) (sem_gsCons (sem_gSetL (sem_var (i := 6)) (sem_var (i := 7))) sem_gsNil))) (calm_gT (calm_gsCons (calm_gSetL _ _) (calm_gsCons (calm_gSetL _ _) calm_gsNil))))
  (sem_ret (sem_m1 ms_join (sem_var (i := 5)) (sem_settle (sem_op os_addU (sem_settle (sem_op os_addU (sem_settle (sem_sl (sem_var (i := 6)) sem_oNone (sem_oPart (SemD.e (sem_var (i := 3)))))) (sem_settle (sem_op os_mulU (sem_settle (sem_sl (sem_var (i := 6)) (sem_oPart (SemD.e (sem_var (i := 3)))) (sem_oPart (sem_op os_addU (sem_var (i := 3)) sem_int)))) (sem_settle (sem_call (np := 2) (F := F__law_take) rfl (sem_cons (sem_var (i := 0)) (sem_cons sem_int sem_nil)))))))) (sem_settle (sem_sl (sem_var (i := 6)) (sem_oPart (sem_op os_addU (sem_var (i := 3)) sem_int)) sem_oNone)))))))))))) rfl (by decide) h⟩
/-! read_body: 0 call, 1 string, 2 rows, 3 at, 4 row, 5 part -/
abbrev s_read_body : Stmt := top 11
theorem sc_read_body : FnScope ["call", "string", "rows", "at", "row", "part"] ["call", "string"] (defScope s_read_body) := ⟨rfl, rfl, rfl, by decide +kernel, rfl, by decide +kernel, by decide +kernel⟩
def X1_read_body : Env → Out EV := (eLc (srcV (settled (eM1 gSplit (eVar 1) (eC (.str ", "))))) (gN 5) (fun env => .val true env) (eCB gTuple (aCons (settled (eM1 gSplit (eVar 5) (eC (.str " ")))) aNil)) [5])
def Y2_read_body : Env → OutS := (sIf (bNot (bTr (settled (eCall 2 F_is_row (aCons (eVar 0) (aCons (eVar 4) aNil)))))) (sRaise "NoText" ["at"] (aCons (eVar 3) aNil)) sNext)
def X2_read_body : Env → OutS := (sFor (srcE (aCons (settled (eSl (eVar 2) oNone (oPart (eC (.int 6))))) aNil)) (gT 2 (gsCons (gN 3) (gsCons (gN 4) gsNil))) Y2_read_body)
def B_read_body : Env → OutS := (sSeq (sIf (bNot (bTr (settled (eCB gIsi (aCons (eVar 1) (aCons (eC (.any (.ty "str"))) aNil)))))) (sRaise "NoText" ["at"] (aCons (settled (eUn gNeg (eC (.int 1)))) aNil)) sNext)
  (sSeq (sIf (bBl (eOp gEqU (eVar 1) (eC (.str "-")))) (sRet (eTup aNil)) sNext)
  (sSeq (sAsg X1_read_body (gN 2))
  (sSeq X2_read_body
  (sSeq (sIf (bBl (eOp gGtU (settled (eCB gLenU (aCons (eVar 2) aNil))) (eC (.int 6)))) (sRaise "NoText" ["at"] (aCons (eC (.int 6)) aNil)) sNext)
  (sRet (eCB gTuple (aCons (eVar 2) aNil))))))))
def F_read_body : List Slot → OutF := funF 2 6 B_read_body
theorem ok_read_body {f : Addr} {fd : FuncData} (Fn : Fun K "read_body" "read_body" s_read_body f fd) (D_is_row : Def P w K mg base "is_row" 2 ["call", "thing"] 2 F_is_row) {t_DASH : Tok} (c_DASH : mg "DASH" = some (.str "-" t_DASH)) {t_MOST_ROWS : Tok} (c_MOST_ROWS : mg "MOST_ROWS" = some (.int 6 t_MOST_ROWS)) (b_enumerate : mg "enumerate" = none) (b_isinstance : mg "isinstance" = none) (b_len : mg "len" = none) (b_str : mg "str" = none) (b_tuple : mg "tuple" = none) {C_NoText : Addr} (X_NoText : ExcOk P w K mg base "NoText" ["at"] C_NoText) : FnOk P w K mg base (L2.CX P w) 3 f fd ["call", "string"] (spD K mg 2 F_read_body) := by
  obtain ⟨f_is_row, fd_is_row, m_is_row, kp_is_row, bd_is_row, G_is_row⟩ := D_is_row
  refine Fn.okX sc_read_body (fun vs H Q E h => h.1) (fun cdv A outer s H vs Q E hr h => ?_)
  have tk : Takes (cxOf (L2.CX P w) P w K mg base ["call", "string", "rows", "at", "row", "part"] "read_body" (defScope s_read_body) f cdv A outer s H E) (fun cls d _ H => E cls d H) := takes_of rfl rfl rfl rfl
  have po : PassesOwn (model P w) (A.deeper (envOfC "read_body" (defScope s_read_body) s.heap.objs.size f cdv)) (envOfC "read_body" (defScope s_read_body) s.heap.objs.size f cdv) (cxOf (L2.CX P w) P w K mg base ["call", "string", "rows", "at", "row", "part"] "read_body" (defScope s_read_body) f cdv A outer s H E).xe := passes_of rfl
  exact ⟨_, (pss_cons (ps_if (pt_not (pt_tr (pe_callB call_isi (by rfl) b_isinstance (by decide +kernel) (pa_cons (pv 1) (pa_cons (pe_bltn (v := .ty "str") (by rfl) b_str (by decide +kernel) rfl) pa_nil))))) (pss_one (ps_raiseO X_NoText tk (hr.mono (by decide)) (pa_cons (pe_un un_neg pe_int) pa_nil))) pss_nil)
  (pss_cons (ps_if (pt_cmpR (op_eqU hr.units) (pv 1) (pe_glob (v := .str "-") rfl c_DASH ⟨_, rfl⟩) (nomark _)) (pss_one (ps_ret (pe_tupG pa_nil))) pss_nil)
  (pss_cons (ps_setLc (i := 2) (own := [("part", 5)]) (g := gName 5) rfl sc_read_body.nd rfl rfl (sw_true rfl rfl rfl (by decide +kernel)) (pi_seq (pe_split (pv 1) pe_str)) (blkOk_by (own := [("part", 5)]) (by with_unfolding_all rfl)) (fun _ _ _ _ _ => (pg_name (i := 5) sc_read_body.nd rfl (by first | exact Or.inl rfl | exact Or.inr rfl))) (fun _ _ _ _ _ => pts_nil) (fun _ _ _ _ _ => (pe_callTy call_tupG (by rfl) b_tuple (by decide +kernel) (pa_cons (pe_split (pv 5) pe_str) pa_nil))))
  (pss_cons (ps_for po rfl (pi_enumA rfl b_enumerate (pa_cons (pe_slice sl_U (pv 2) po_none (po_some (pe_glob (v := .int 6) rfl c_MOST_ROWS ⟨_, rfl⟩))) pa_nil)) (pg_tup rfl (pgs_cons (pg_name (i := 3) sc_read_body.nd rfl (Or.inl rfl)) (pgs_cons (pg_name (i := 4) sc_read_body.nd rfl (Or.inl rfl)) pgs_nil)))
  (pss_one (ps_if (pt_not (pt_tr (pe_own tk G_is_row (hr.mono (by decide)) m_is_row kp_is_row bd_is_row (pa_cons (pv 0) (pa_cons (pv 4) pa_nil))))) (pss_one (ps_raiseO X_NoText tk (hr.mono (by decide)) (pa_cons (pv 3) pa_nil))) pss_nil)))
  (pss_cons (ps_if (pt_cmpR op_gtU (pe_callB call_lenU (by rfl) b_len (by decide +kernel) (pa_cons (pv 2) pa_nil)) (pe_glob (v := .int 6) rfl c_MOST_ROWS ⟨_, rfl⟩) (nomark _)) (pss_one (ps_raiseO X_NoText tk (hr.mono (by decide)) (pa_cons (pe_glob (v := .int 6) rfl c_MOST_ROWS ⟨_, rfl⟩) pa_nil))) pss_nil)
  (pss_one (ps_ret (pe_callTy call_tupG (by rfl) b_tuple (by decide +kernel) (pa_cons (pv 2) pa_nil))))))))),
  sem_fn (sem_seq (sem_ifS (sem_bNot (sem_tr (sem_settle (sem_cB cs_isi (sem_cons (sem_var (i := 1)) (sem_cons sem_any sem_nil)))))) (sem_raise X_NoText.mC X_NoText.T X_NoText.nof (sem_cons (sem_settle (sem_un us_neg sem_int)) sem_nil)) sem_next)
  (sem_seq (sem_ifS (sem_test (sem_op os_eqU (sem_var (i := 1)) sem_str)) (sem_ret (SemD.e (sem_tup sem_nil))) sem_next)
  (sem_seq (sem_set (i := 2) (sem_lc (vs := [5]) (sem_seqI (sem_settle (sem_m1 ms_split (sem_var (i := 1)) sem_str))) sem_gName (keeps_name (by decide)) sem_yes (sem_cB cs_tuple (sem_cons (sem_settle (sem_m1 ms_split (sem_var (i := 5)) sem_str)) sem_nil))))
  (sem_seq (sem_for2 (sem_enumI (sem_cons (sem_settle (sem_sl (sem_var (i := 2)) sem_oNone (sem_oPart (SemD.e sem_int)))) sem_nil)) (sem_ifS (sem_bNot (sem_tr (sem_settle (sem_call (np := 2) (F := F_is_row) rfl (sem_cons (sem_var (i := 0)) (sem_cons (sem_var (i := 4)) sem_nil)))))) (sem_raise X_NoText.mC X_NoText.T X_NoText.nof (sem_cons (sem_var (i := 3)) sem_nil)) sem_next))
  (sem_seq (sem_ifS (sem_test (sem_op os_gtU (sem_settle (sem_cB cs_lenU (sem_cons (sem_var (i := 2)) sem_nil))) sem_int)) (sem_raise X_NoText.mC X_NoText.T X_NoText.nof (sem_cons sem_int sem_nil)) sem_next)
  (sem_ret (sem_cB cs_tuple (sem_cons (sem_var (i := 2)) sem_nil)))))))) rfl (by decide) h⟩
/-! _law_due: 0 _law_call, 1 _law_thing, 2 _law_words, 3 _law_rows, 4 _law_word -/
abbrev s__law_due : Stmt := top 21
theorem sc__law_due : FnScope ["_law_call", "_law_thing", "_law_words", "_law_rows", "_law_word"] ["_law_call", "_law_thing"] (defScope s__law_due) := ⟨rfl, rfl, rfl, by decide +kernel, rfl, by decide +kernel, by decide +kernel⟩
def X1__law_due : Env → Out EV := (eLc (srcV (eVar 2)) (gN 4) (fun env => .val true env) (eCall 2 F__law_row (aCons (eVar 0) (aCons (eVar 4) aNil))) [4])
def B__law_due : Env → OutS := (sSeq (sIf (bNot (bTr (settled (eCB gIsi (aCons (eVar 1) (aCons (eC (.any (.ty "str"))) aNil)))))) (sRet (eUn gNeg (eC (.int 1)))) sNext)
  (sSeq (sAsg (eIf (bBl (eOp gNeU (eVar 1) (eC (.str "-")))) (eM1 gSplit (eVar 1) (eC (.str ", "))) (eLst aNil)) (gN 2))
  (sSeq (sAsg X1__law_due (gN 3))
  (sSeq (sIf (bBl (eOp gInU (eC .non) (settled (eSl (eVar 3) oNone (oPart (eC (.int 6))))))) (sRet (eBmR gIdx (eVar 3) (aCons (eC .non) aNil))) sNext)
  (sRet (eIf (bBl (eOp (gB fun i j => decide (i < j)) (settled (eCB gLenU (aCons (eVar 3) aNil))) (eC (.int 7)))) (eCB gTuple (aCons (eVar 3) aNil)) (eC (.int 6))))))))
def F__law_due : List Slot → OutF := funF 2 5 B__law_due
theorem ok__law_due {f : Addr} {fd : FuncData} (Fn : Fun K "_law_due" "_law_due" s__law_due f fd) (D__law_row : Def P w K mg base "_law_row" 2 ["_law_call", "_law_word"] 2 F__law_row) (b_isinstance : mg "isinstance" = none) (b_len : mg "len" = none) (b_str : mg "str" = none) (b_tuple : mg "tuple" = none) : FnOk P w K mg base (L2.CX P w) 3 f fd ["_law_call", "_law_thing"] (spD K mg 2 F__law_due) := by
  obtain ⟨f__law_row, fd__law_row, m__law_row, kp__law_row, bd__law_row, G__law_row⟩ := D__law_row
  refine Fn.okX sc__law_due (fun vs H Q E h => h.1) (fun cdv A outer s H vs Q E hr h => ?_)
  have tk : Takes (cxOf (L2.CX P w) P w K mg base ["_law_call", "_law_thing", "_law_words", "_law_rows", "_law_word"] "_law_due" (defScope s__law_due) f cdv A outer s H E) (fun cls d _ H => E cls d H) := takes_of rfl rfl rfl rfl
  have po : PassesOwn (model P w) (A.deeper (envOfC "_law_due" (defScope s__law_due) s.heap.objs.size f cdv)) (envOfC "_law_due" (defScope s__law_due) s.heap.objs.size f cdv) (cxOf (L2.CX P w) P w K mg base ["_law_call", "_law_thing", "_law_words", "_law_rows", "_law_word"] "_law_due" (defScope s__law_due) f cdv A outer s H E).xe := passes_of rfl
  exact ⟨_, (pss_cons (ps_if (pt_not (pt_tr (pe_callB call_isi (by rfl) b_isinstance (by decide +kernel) (pa_cons (pv 1) (pa_cons (pe_bltn (v := .ty "str") (by rfl) b_str (by decide +kernel) rfl) pa_nil))))) (pss_one (ps_ret (pe_un un_neg pe_int))) pss_nil)
  (pss_cons (ps_set (i := 2) sc__law_due.nd rfl (Or.inl rfl) (pe_ifExp (pt_cmpR (op_neU hr.units) (pv 1) pe_str (nomark _)) (pe_split (pv 1) pe_str) (pe_lst pa_nil)))
  (pss_cons (ps_setLc (i := 3) (own := [("_law_word", 4)]) (g := gName 4) rfl sc__law_due.nd rfl rfl (sw_true rfl rfl rfl (by decide +kernel)) (pi_seq (pv 2)) (blkOk_by (own := [("_law_word", 4)]) (by with_unfolding_all rfl)) (fun _ _ _ _ _ => (pg_name (i := 4) sc__law_due.nd rfl (by first | exact Or.inl rfl | exact Or.inr rfl))) (fun _ _ _ _ _ => pts_nil) (fun _ _ _ _ _ => (pe_own takes0 G__law_row (hr.mono (by decide)) m__law_row kp__law_row bd__law_row (pa_cons (pv 0) (pa_cons (pv 4) pa_nil)))))
  (pss_cons (ps_if (pt_cmpR (op_inU (room65 hr)) pe_non (pe_slice sl_U (pv 3) po_none (po_some pe_int)) rfl) (pss_one (ps_ret (pe_bm PySem.F.plainAttrs_list PySem.F.slot_list_index PySem.F.type_list_index (mt_indexD (room65 hr)) (pv 3) (pa_cons pe_non pa_nil)))) pss_nil)
  (pss_one (ps_ret (pe_ifExp (pt_cmpR op_lt (pe_callB call_lenU (by rfl) b_len (by decide +kernel) (pa_cons (pv 3) pa_nil)) pe_int (nomark _)) (pe_callTy call_tupG (by rfl) b_tuple (by decide +kernel) (pa_cons (pv 3) pa_nil)) pe_int))))))),
  sem_fn (sem_seq (sem_ifS (sem_bNot (sem_tr (sem_settle (sem_cB cs_isi (sem_cons (sem_var (i := 1)) (sem_cons sem_any sem_nil)))))) (sem_ret (sem_un us_neg sem_int)) sem_next)
  (sem_seq (sem_set (i := 2) (sem_if (sem_test (sem_op os_neU (sem_var (i := 1)) sem_str)) (sem_m1 ms_split (sem_var (i := 1)) sem_str) (sem_lst sem_nil)))
  (sem_seq (sem_set (i := 3) (sem_lc (vs := [4]) (sem_seqI (sem_var (i := 2))) sem_gName (keeps_name (by decide)) sem_yes (sem_call (np := 2) (F := F__law_row) rfl (sem_cons (sem_var (i := 0)) (sem_cons (sem_var (i := 4)) sem_nil)))))
  (sem_seq (sem_ifS (sem_test (sem_op os_inU sem_non (sem_settle (sem_sl (sem_var (i := 3)) sem_oNone (sem_oPart (SemD.e sem_int)))))) (sem_ret (sem_bmR mtr_index (sem_var (i := 3)) (sem_cons sem_non sem_nil))) sem_next)
  (sem_ret (sem_if (sem_test (sem_op os_B (sem_settle (sem_cB cs_lenU (sem_cons (sem_var (i := 3)) sem_nil))) sem_int)) (sem_cB cs_tuple (sem_cons (sem_var (i := 3)) sem_nil)) (SemD.e sem_int))))))) rfl (by decide) h⟩
/-! _law_told: 0 _law_call, 1 _law_thing, 2 e -/
abbrev s__law_told : Stmt := top 22
theorem sc__law_told : FnScope ["_law_call", "_law_thing", "e"] ["_law_call", "_law_thing"] (defScope s__law_told) := ⟨rfl, rfl, rfl, by decide +kernel, rfl, by decide +kernel, by decide +kernel⟩
def X1__law_told : Env → OutS := (sTry "NoText" 2 (sRet (eCall 2 F_read_body (aCons (eVar 0) (aCons (eVar 1) aNil)))) (sRet (eXf "NoText" "at" 2)))
def B__law_told : Env → OutS := X1__law_told
def F__law_told : List Slot → OutF := funF 2 3 B__law_told
theorem ok__law_told {f : Addr} {fd : FuncData} (Fn : Fun K "_law_told" "_law_told" s__law_told f fd) (D_read_body : Def P w K mg base "read_body" 3 ["call", "string"] 2 F_read_body) {C_NoText : Addr} (X_NoText : ExcOk P w K mg base "NoText" ["at"] C_NoText) : FnOk P w K mg base (L2.CX P w) 4 f fd ["_law_call", "_law_thing"] (spD K mg 2 F__law_told) := by
  obtain ⟨f_read_body, fd_read_body, m_read_body, kp_read_body, bd_read_body, G_read_body⟩ := D_read_body
  refine Fn.okX sc__law_told (fun vs H Q E h => h.1) (fun cdv A outer s H vs Q E hr h => ?_)
  have tk : Takes (cxOf (L2.CX P w) P w K mg base ["_law_call", "_law_thing", "e"] "_law_told" (defScope s__law_told) f cdv A outer s H E) (fun cls d _ H => E cls d H) := takes_of rfl rfl rfl rfl
  have po : PassesOwn (model P w) (A.deeper (envOfC "_law_told" (defScope s__law_told) s.heap.objs.size f cdv)) (envOfC "_law_told" (defScope s__law_told) s.heap.objs.size f cdv) (cxOf (L2.CX P w) P w K mg base ["_law_call", "_law_thing", "e"] "_law_told" (defScope s__law_told) f cdv A outer s H E).xe := passes_of rfl
  exact ⟨_, (pss_one (ps_tryA (i := 2) sc__law_told.nd X_NoText.mC tk (fun W pn xe tk _ => (pss_one (ps_ret (pe_own tk G_read_body (hr.mono (by decide)) m_read_body kp_read_body bd_read_body (pa_cons (pv 0) (pa_cons (pv 1) pa_nil))))))
  (fun a oe cls d pn hz hf => (pss_one (ps_ret (pe_xf X_NoText.xf (X_NoText.nof "at" (by simp)) hz hf (pv 2))))))),
  sem_fn (sem_try rfl X_NoText.mC X_NoText.te (fun W => (sem_ret (sem_call (np := 2) (F := F_read_body) rfl (sem_cons (sem_var (i := 0)) (sem_cons (sem_var (i := 1)) sem_nil)))))
  (fun a cls d => (sem_ret (sem_xf (x := "NoText") rfl X_NoText.mC)))) rfl (by decide) h⟩
/-! law: 0 _law_script, 1 _law_at, 2 _law_bag_here, 3 _law_calls, 4 _law_call, 5 _law_words, 6 _law_turn, 7 _law_rows, 8 _law_text, 9 _law_things, 10 _law_bend, 11 _law_thing, 12 _law_found, 13 _law_due_here -/
abbrev s_law : Stmt := top 24
theorem sc_law : FnScope ["_law_script", "_law_at", "_law_bag_here", "_law_calls", "_law_call", "_law_words", "_law_turn", "_law_rows", "_law_text", "_law_things", "_law_bend", "_law_thing", "_law_found", "_law_due_here"] ["_law_script"] (defScope s_law) := ⟨rfl, rfl, rfl, by decide +kernel, rfl, by decide +kernel, by decide +kernel⟩
def Y1_law : Env → OutS := (fun env => ((eBmL gAppend (eVar 9) (aCons (settled (eCall 2 F__law_bent (aCons (eVar 2) (aCons (settled (eIf (bTr (settled (eCB gIsi (aCons (settled (eOp gIx (eVar 9) (eVar 10))) (aCons (eC (.any (.ty "str"))) aNil))))) (eOp gIx (eVar 9) (eVar 10)) (eVar 8))) aNil)))) aNil)) env).toS fun _ e => .next e)
def X1_law : Env → OutS := (sFor (srcR1 (aCons (eC (.int 10)) aNil)) (gN 10) Y1_law)
def Y2_law : Env → OutS := (sSeq (sPar2 12 13 (eCall 2 F__law_told (aCons (eVar 4) (aCons (eVar 11) aNil))) (eCall 2 F__law_due (aCons (eVar 4) (aCons (eVar 11) aNil))))
  (sIf (bOr (bBl (eOp gNeU (eVar 12) (eVar 13))) (bTr (settled (eCB gIsi (aCons (eVar 12) (aCons (eC (.any (.ty "bool"))) aNil)))))) (sRet (eC (.bl false))) sNext))
def X2_law : Env → OutS := (sFor (srcV (eVar 9)) (gN 11) Y2_law)
def Y3_law : Env → OutS := (sSeq (sAsg (eSl (settled (eOp gAddU (settled (eCall 4 F__law_body (aCons (eVar 2) (aCons (eVar 4) (aCons (eVar 3) (aCons (eVar 5) aNil)))))) (settled (eCall 4 F__law_body (aCons (eVar 2) (aCons (eVar 4) (aCons (eVar 3) (aCons (eVar 5) aNil)))))))) oNone (oPart (eCall 2 F__law_take (aCons (eVar 2) (aCons (eC (.int 7)) aNil))))) (gN 7))
  (sSeq (sAsg (eCall 1 F__law_written (aCons (eVar 7) aNil)) (gN 8))
  (sSeq (sIf (bOr (bBl (eOp gNeU (settled (eCall 1 F_show_body (aCons (eVar 7) aNil))) (eVar 8))) (bBl (eOp gNeU (settled (eCall 2 F_read_body (aCons (eVar 4) (aCons (eVar 8) aNil)))) (eVar 7)))) (sRet (eC (.bl false))) sNext)
  (sSeq (sAsg (eLst (aCons (settled (eOp gAddU (eVar 8) (eC (.str ", next")))) (aCons (settled (eM1 gJoin (eC (.str ", ")) (settled (eOp gMulU (settled (eLst (aCons (eC (.str "next")) aNil))) (eC (.int 6)))))) (aCons (settled (eM1 gJoin (eC (.str ", ")) (settled (eOp gMulU (settled (eLst (aCons (eC (.str "next")) aNil))) (eC (.int 7)))))) (aCons (eC (.str "")) (aCons (eC (.str "- ")) (aCons (settled (eOp gAddU (eVar 8) (eC (.str ", ")))) aNil))))))) (gN 9))
  (sSeq (sAsg (eOp gAddU (eVar 9) (settled (eLst (aCons (eC .non) (aCons (eC (.int 7)) (aCons (eVar 7) (aCons (settled (eLst (aCons (eVar 8) aNil))) (aCons (settled (eOp gAddU (eC (.str "call ")) (eVar 4))) (aCons (eC (.str "say house")) (aCons (eC (.str "say abcdefghi")) aNil)))))))))) (gN 9))
  (sSeq X1_law
  X2_law))))))
def X3_law : Env → OutS := (sFor (srcR1 (aCons (eC (.int 4)) aNil)) (gN 6) Y3_law)
def Y4_law : Env → OutS := (sSeq (sAsg (eCall 2 F__law_bag (aCons (eVar 0) (aCons (eVar 1) aNil))) (gN 2))
  (sSeq (sAsg (eCB gSortU (aCons (settled (eCall 2 F__law_odd_names (aCons (eVar 2) (aCons (settled (eCall 2 F__law_names (aCons (eVar 2) (aCons (eC (.int 5)) aNil)))) aNil)))) aNil)) (gN 3))
  (sSeq (sPar2 4 5 (eOp gIx (eVar 3) (settled (eCall 2 F__law_take (aCons (eVar 2) (aCons (eC (.int 4)) aNil))))) (eCall 2 F__law_odd_names (aCons (eVar 2) (aCons (settled (eCall 2 F__law_names (aCons (eVar 2) (aCons (eC (.int 3)) aNil)))) aNil))))
  X3_law)))
def X4_law : Env → OutS := (sFor (srcR1 (aCons (settled (eCB gMax2 (aCons (eC (.int 3)) (aCons (settled (eCB gMin2 (aCons (eC (.int 7)) (aCons (settled (eCB gLenU (aCons (eVar 0) aNil))) aNil)))) aNil)))) aNil)) (gN 1) Y4_law)
def B_law : Env → OutS := (sSeq X4_law
  (sRet (eC (.bl true))))
def F_law : List Slot → OutF := funF 1 14 B_law
theorem ok_law {f : Addr} {fd : FuncData} (Fn : Fun K "law" "law" s_law f fd) (D__law_bag : Def P w K mg base "_law_bag" 1 ["_law_script", "_law_at"] 2 F__law_bag) (D__law_odd_names : Def P w K mg base "_law_odd_names" 2 ["_law_bag_here", "_law_names_here"] 2 F__law_odd_names) (D__law_names : Def P w K mg base "_law_names" 2 ["_law_bag_here", "_law_many"] 2 F__law_names) (D__law_take : Def P w K mg base "_law_take" 1 ["_law_bag_here", "_law_many"] 2 F__law_take) (D__law_body : Def P w K mg base "_law_body" 2 ["_law_bag_here", "_law_call", "_law_calls", "_law_words"] 4 F__law_body) (D__law_written : Def P w K mg base "_law_written" 1 ["_law_rows"] 1 F__law_written) (D_show_body : Def P w K mg base "show_body" 1 ["body"] 1 F_show_body) (D_read_body : Def P w K mg base "read_body" 3 ["call", "string"] 2 F_read_body) (D__law_bent : Def P w K mg base "_law_bent" 2 ["_law_bag_here", "_law_text"] 2 F__law_bent) (D__law_told : Def P w K mg base "_law_told" 4 ["_law_call", "_law_thing"] 2 F__law_told) (D__law_due : Def P w K mg base "_law_due" 3 ["_law_call", "_law_thing"] 2 F__law_due) (b_bool : mg "bool" = none) (b_isinstance : mg "isinstance" = none) (b_len : mg "len" = none) (b_max : mg "max" = none) (b_min : mg "min" = none) (b_range : mg "range" = none) (b_sorted : mg "sorted" = none) (b_str : mg "str" = none) : FnOk P w K mg base (L2.CX P w) 5 f fd ["_law_script"] (spD K mg 1 F_law) := by
  obtain ⟨f__law_bag, fd__law_bag, m__law_bag, kp__law_bag, bd__law_bag, G__law_bag⟩ := D__law_bag
  obtain ⟨f__law_odd_names, fd__law_odd_names, m__law_odd_names, kp__law_odd_names, bd__law_odd_names, G__law_odd_names⟩ := D__law_odd_names
  obtain ⟨f__law_names, fd__law_names, m__law_names, kp__law_names, bd__law_names, G__law_names⟩ := D__law_names
  obtain ⟨f__law_take, fd__law_take, m__law_take, kp__law_take, bd__law_take, G__law_take⟩ := D__law_take
  obtain ⟨f__law_body, fd__law_body, m__law_body, kp__law_body, bd__law_body, G__law_body⟩ := D__law_body
  obtain ⟨f__law_written, fd__law_written, m__law_written, kp__law_written, bd__law_written, G__law_written⟩ := D__law_written
  obtain ⟨f_show_body, fd_show_body, m_show_body, kp_show_body, bd_show_body, G_show_body⟩ := D_show_body
  obtain ⟨f_read_body, fd_read_body, m_read_body, kp_read_body, bd_read_body, G_read_body⟩ := D_read_body
  obtain ⟨f__law_bent, fd__law_bent, m__law_bent, kp__law_bent, bd__law_bent, G__law_bent⟩ := D__law_bent
  obtain ⟨f__law_told, fd__law_told, m__law_told, kp__law_told, bd__law_told, G__law_told⟩ := D__law_told
  obtain ⟨f__law_due, fd__law_due, m__law_due, kp__law_due, bd__law_due, G__law_due⟩ := D__law_due
  refine Fn.okX sc_law (fun vs H Q E h => h.1) (fun cdv A outer s H vs Q E hr h => ?_)
  have tk : Takes (cxOf (L2.CX P w) P w K mg base ["_law_script", "_law_at", "_law_bag_here", "_law_calls", "_law_call", "_law_words", "_law_turn", "_law_rows", "_law_text", "_law_things", "_law_bend", "_law_thing", "_law_found", "_law_due_here"] "law" (defScope s_law) f cdv A outer s H E) (fun cls d _ H => E cls d H) := takes_of rfl rfl rfl rfl
  have po : PassesOwn (model P w) (A.deeper (envOfC "law" (defScope s_law) s.heap.objs.size f cdv)) (envOfC "law" (defScope s_law) s.heap.objs.size f cdv) (cxOf (L2.CX P w) P w K mg base ["_law_script", "_law_at", "_law_bag_here", "_law_calls", "_law_call", "_law_words", "_law_turn", "_law_rows", "_law_text", "_law_things", "_law_bend", "_law_thing", "_law_found", "_law_due_here"] "law" (defScope s_law) f cdv A outer s H E).xe := passes_of rfl
  exact ⟨_, (pss_cons (ps_for po rfl (pi_range1 rfl b_range (pa_cons (pe_callB (call_max2 rfl) (by rfl) b_max (by decide +kernel) (pa_cons pe_int (pa_cons (pe_callB (call_min2 rfl) (by rfl) b_min (by decide +kernel) (pa_cons pe_int (pa_cons (pe_callB call_lenU (by rfl) b_len (by decide +kernel) (pa_cons (pv 0) pa_nil)) pa_nil))) pa_nil))) pa_nil)) (pg_name (i := 1) sc_law.nd rfl (Or.inl rfl))
  (pss_cons (ps_set (i := 2) sc_law.nd rfl (Or.inl rfl) (pe_own tk G__law_bag (hr.mono (by decide)) m__law_bag kp__law_bag bd__law_bag (pa_cons (pv 0) (pa_cons (pv 1) pa_nil))))
  (pss_cons (ps_set (i := 3) sc_law.nd rfl (Or.inl rfl) (pe_callB (cr_sortedU rfl) (by rfl) b_sorted (by decide +kernel) (pa_cons (pe_own tk G__law_odd_names (hr.mono (by decide)) m__law_odd_names kp__law_odd_names bd__law_odd_names (pa_cons (pv 2) (pa_cons (pe_own tk G__law_names (hr.mono (by decide)) m__law_names kp__law_names bd__law_names (pa_cons (pv 2) (pa_cons pe_int pa_nil))) pa_nil))) pa_nil)))
  (pss_cons (ps_par (i := 4) (j := 5) (by rfl) sc_law.nd rfl rfl (by decide) rfl rfl (pa_cons (pe_ix (ix_U (hu_of hr)) (pv 3) (pe_own tk G__law_take (hr.mono (by decide)) m__law_take kp__law_take bd__law_take (pa_cons (pv 2) (pa_cons pe_int pa_nil))) (fun _ _ => rfl)) (pa_cons (pe_own tk G__law_odd_names (hr.mono (by decide)) m__law_odd_names kp__law_odd_names bd__law_odd_names (pa_cons (pv 2) (pa_cons (pe_own tk G__law_names (hr.mono (by decide)) m__law_names kp__law_names bd__law_names (pa_cons (pv 2) (pa_cons pe_int pa_nil))) pa_nil))) pa_nil)) (by rfl))
  (pss_one (ps_for po rfl (pi_range1 rfl b_range (pa_cons pe_int pa_nil)) (pg_name (i := 6) sc_law.nd rfl (Or.inl rfl))
  (pss_cons (ps_set (i := 7) sc_law.nd rfl (Or.inl rfl) (pe_slice sl_U (pe_op op_addU (pe_own tk G__law_body (hr.mono (by decide)) m__law_body kp__law_body bd__law_body (pa_cons (pv 2) (pa_cons (pv 4) (pa_cons (pv 3) (pa_cons (pv 5) pa_nil))))) (pe_own tk G__law_body (hr.mono (by decide)) m__law_body kp__law_body bd__law_body (pa_cons (pv 2) (pa_cons (pv 4) (pa_cons (pv 3) (pa_cons (pv 5) pa_nil)))))) po_none (po_some (pe_own tk G__law_take (hr.mono (by decide)) m__law_take kp__law_take bd__law_take (pa_cons (pv 2) (pa_cons pe_int pa_nil))))))
  (pss_cons (ps_set (i := 8) sc_law.nd rfl (Or.inl rfl) (pe_own tk G__law_written (hr.mono (by decide)) m__law_written kp__law_written bd__law_written (pa_cons (pv 7) pa_nil)))
  (pss_cons (ps_if (PW.pt (pw_or (pt_cmpR (op_neU hr.units) (pe_own tk G_show_body (hr.mono (by decide)) m_show_body kp_show_body bd_show_body (pa_cons (pv 7) pa_nil)) (pv 8) (nomark _)) (pw_or1 (pt_cmpR (op_neU hr.units) (pe_own tk G_read_body (hr.mono (by decide)) m_read_body kp_read_body bd_read_body (pa_cons (pv 4) (pa_cons (pv 8) pa_nil))) (pv 7) (nomark _))))) (pss_one (ps_ret pe_bl)) pss_nil)
  (pss_cons (ps_set (i := 9) sc_law.nd rfl (Or.inl rfl) (pe_lst (pa_cons (pe_op op_addU (pv 8) pe_str) (pa_cons (pe_join pe_str (pe_op op_mulU (pe_lst (pa_cons pe_str pa_nil)) pe_int)) (pa_cons (pe_join pe_str (pe_op op_mulU (pe_lst (pa_cons pe_str pa_nil)) pe_int)) (pa_cons pe_str (pa_cons pe_str (pa_cons (pe_op op_addU (pv 8) pe_str) pa_nil))))))))
  (pss_cons (ps_set (i := 9) sc_law.nd rfl (Or.inl rfl) (pe_op op_addU (pv 9) (pe_lst (pa_cons pe_non (pa_cons pe_int (pa_cons (pv 7) (pa_cons (pe_lst (pa_cons (pv 8) pa_nil)) (pa_cons (pe_op op_addU pe_str (pv 4)) (pa_cons pe_str (pa_cons pe_str pa_nil))))))))))
  (pss_cons (ps_for po rfl (pi_range1 rfl b_range (pa_cons pe_int pa_nil)) (pg_name (i := 10) sc_law.nd rfl (Or.inl rfl))
  (pss_one (ps_expr (pe_bm PySem.F.plainAttrs_list PySem.F.slot_list_append PySem.F.type_list_append mt_append (pv 9) (pa_cons (pe_own tk G__law_bent (hr.mono (by decide)) m__law_bent kp__law_bent bd__law_bent (pa_cons (pv 2) (pa_cons (pe_ifExp (pt_tr (pe_callB call_isi (by rfl) b_isinstance (by decide +kernel) (pa_cons (pe_ix (ix_U (hu_of hr)) (pv 9) (pv 10) (fun _ _ => rfl)) (pa_cons (pe_bltn (v := .ty "str") (by rfl) b_str (by decide +kernel) rfl) pa_nil)))) (pe_ix (ix_U (hu_of hr)) (pv 9) (pv 10) (fun _ _ => rfl)) (pv 8)) pa_nil))) pa_nil)))))
  (pss_one (ps_for po rfl (pi_seq (pv 9)) (pg_name (i := 11) sc_law.nd rfl (Or.inl rfl))
  (pss_cons (ps_par (i := 12) (j := 13) (by rfl) sc_law.nd rfl rfl (by decide) rfl rfl (pa_cons (pe_own tk G__law_told (hr.mono (by decide)) m__law_told kp__law_told bd__law_told (pa_cons (pv 4) (pa_cons (pv 11) pa_nil))) (pa_cons (pe_own tk G__law_due (hr.mono (by decide)) m__law_due kp__law_due bd__law_due (pa_cons (pv 4) (pa_cons (pv 11) pa_nil))) pa_nil)) (by rfl))
  (pss_one (ps_if (PW.pt (pw_or (pt_cmpR (op_neU hr.units) (pv 12) (pv 13) (nomark _)) (pw_or1 (pt_tr (pe_callB call_isi (by rfl) b_isinstance (by decide +kernel) (pa_cons (pv 12) (pa_cons (pe_bltn (v := .ty "bool") (by rfl) b_bool (by decide +kernel) rfl) pa_nil))))))) (pss_one (ps_ret pe_bl)) pss_nil)))))))))))))))))
  (pss_one (ps_ret pe_bl))),
  sem_fn (sem_seq (sem_forN (sem_range1 (sem_cons (sem_settle (sem_cB cs_max2 (sem_cons sem_int (sem_cons (sem_settle (sem_cB cs_min2 (sem_cons sem_int (sem_cons (sem_settle (sem_cB cs_lenU (sem_cons (sem_var (i := 0)) sem_nil))) sem_nil)))) sem_nil)))) sem_nil)) (sem_seq (sem_set (i := 2) (sem_call (np := 2) (F := F__law_bag) rfl (sem_cons (sem_var (i := 0)) (sem_cons (sem_var (i := 1)) sem_nil))))
  (sem_seq (sem_set (i := 3) (sem_cB cs_sortU (sem_cons (sem_settle (sem_call (np := 2) (F := F__law_odd_names) rfl (sem_cons (sem_var (i := 2)) (sem_cons (sem_settle (sem_call (np := 2) (F := F__law_names) rfl (sem_cons (sem_var (i := 2)) (sem_cons sem_int sem_nil)))) sem_nil)))) sem_nil)))
  (sem_seq (sem_par2 (sem_op os_ix (sem_var (i := 3)) (sem_settle (sem_call (np := 2) (F := F__law_take) rfl (sem_cons (sem_var (i := 2)) (sem_cons sem_int sem_nil))))) (sem_call (np := 2) (F := F__law_odd_names) rfl (sem_cons (sem_var (i := 2)) (sem_cons (sem_settle (sem_call (np := 2) (F := F__law_names) rfl (sem_cons (sem_var (i := 2)) (sem_cons sem_int sem_nil)))) sem_nil))))
  (sem_forN (sem_range1 (sem_cons sem_int sem_nil)) (sem_seq (sem_set (i := 7) (sem_sl (sem_settle (sem_op os_addU (sem_settle (sem_call (np := 4) (F := F__law_body) rfl (sem_cons (sem_var (i := 2)) (sem_cons (sem_var (i := 4)) (sem_cons (sem_var (i := 3)) (sem_cons (sem_var (i := 5)) sem_nil)))))) (sem_settle (sem_call (np := 4) (F := F__law_body) rfl (sem_cons (sem_var (i := 2)) (sem_cons (sem_var (i := 4)) (sem_cons (sem_var (i := 3)) (sem_cons (sem_var (i := 5)) sem_nil)))))))) sem_oNone (sem_oPart (sem_call (np := 2) (F := F__law_take) rfl (sem_cons (sem_var (i := 2)) (sem_cons sem_int sem_nil))))))
  (sem_seq (sem_set (i := 8) (sem_call (np := 1) (F := F__law_written) rfl (sem_cons (sem_var (i := 7)) sem_nil)))
  (sem_seq (sem_ifS (sem_bOr (sem_test (sem_op os_neU (sem_settle (sem_call (np := 1) (F := F_show_body) rfl (sem_cons (sem_var (i := 7)) sem_nil))) (sem_var (i := 8)))) (sem_test (sem_op os_neU (sem_settle (sem_call (np := 2) (F := F_read_body) rfl (sem_cons (sem_var (i := 4)) (sem_cons (sem_var (i := 8)) sem_nil)))) (sem_var (i := 7))))) (sem_ret (SemD.e sem_bl)) sem_next)
  (sem_seq (sem_set (i := 9) (sem_lst (sem_cons (sem_settle (sem_op os_addU (sem_var (i := 8)) sem_str)) (sem_cons (sem_settle (sem_m1 ms_join sem_str (sem_settle (sem_op os_mulU (sem_settle (sem_lst (sem_cons sem_str sem_nil))) sem_int)))) (sem_cons (sem_settle (sem_m1 ms_join sem_str (sem_settle (sem_op os_mulU (sem_settle (sem_lst (sem_cons sem_str sem_nil))) sem_int)))) (sem_cons sem_str (sem_cons sem_str (sem_cons (sem_settle (sem_op os_addU (sem_var (i := 8)) sem_str)) sem_nil))))))))
  (sem_seq (sem_set (i := 9) (sem_op os_addU (sem_var (i := 9)) (sem_settle (sem_lst (sem_cons sem_non (sem_cons sem_int (sem_cons (sem_var (i := 7)) (sem_cons (sem_settle (sem_lst (sem_cons (sem_var (i := 8)) sem_nil))) (sem_cons (sem_settle (sem_op os_addU sem_str (sem_var (i := 4)))) (sem_cons sem_str (sem_cons sem_str sem_nil)))))))))))
  (sem_seq (sem_forN (sem_range1 (sem_cons sem_int sem_nil)) (sem_drop (SemD.e (sem_bmL mtl_append (sem_var (i := 9)) (sem_cons (sem_settle (sem_call (np := 2) (F := F__law_bent) rfl (sem_cons (sem_var (i := 2)) (sem_cons (sem_settle (sem_if (sem_tr (sem_settle (sem_cB cs_isi (sem_cons (sem_settle (sem_op os_ix (sem_var (i := 9)) (sem_var (i := 10)))) (sem_cons sem_any sem_nil))))) (sem_op os_ix (sem_var (i := 9)) (sem_var (i := 10))) (SemD.e (sem_var (i := 8))))) sem_nil)))) sem_nil)))))
  (sem_forN (sem_seqI (sem_var (i := 9))) (sem_seq (sem_par2 (sem_call (np := 2) (F := F__law_told) rfl (sem_cons (sem_var (i := 4)) (sem_cons (sem_var (i := 11)) sem_nil))) (sem_call (np := 2) (F := F__law_due) rfl (sem_cons (sem_var (i := 4)) (sem_cons (sem_var (i := 11)) sem_nil))))
  (sem_ifS (sem_bOr (sem_test (sem_op os_neU (sem_var (i := 12)) (sem_var (i := 13)))) (sem_tr (sem_settle (sem_cB cs_isi (sem_cons (sem_var (i := 12)) (sem_cons sem_any sem_nil)))))) (sem_ret (SemD.e sem_bl)) sem_next))))))))))))))
  (sem_ret (SemD.e sem_bl))) rfl (by decide) h⟩
end
end DL.K46

namespace DL.K46
open PySem L2 PySem.Spec PyProof.Rows
section
variable {P : Program} {w : World} {K : PySem.W.Frag} {mg : Str → Option Value} {base : Heap}
theorem ra_ints (G : Hp) : ∀ ns : List Int, RA K G (ns.map V.int) (ns.map D.int)
  | [] => .nil
  | n :: r => .cons (.int n) (ra_ints G r)
theorem exm_own {C : Addr} (h1 : PySem.W.subIn K (.ref C) (.type "BaseException") = some true) (h2 : PySem.W.isClsIn K C = true) (h3 : PySem.W.typeIn K (.ref C) = some (.type "type")) (h4 : PySem.W.subIn K (.ref C) (.ref C) = some true) : PySem.W.exmOne K (.ref C) (.ref C) = some true := by
  have k1 : (PySem.W.subIn K (.ref C) (.type "BaseException") == some true) = true := by rw [h1]; rfl
  have k2 : (PySem.W.clsIn K C).isSome = true := h2
  have k3 : ((PySem.W.clsIn K C).isSome && PySem.W.typeIn K (.ref C) == some (.type "type")) = true := by rw [k2, h3]; rfl
  unfold PySem.W.exmOne
  rw [if_pos k1]
  unfold PySem.W.kitCls
  exact (if_pos k3).trans h4
abbrev si_NoText : Stmt := inClass (top 1) 0
theorem sci_NoText : FnScope ["self", "at"] ["self", "at"] (defScope si_NoText) := ⟨rfl, rfl, rfl, by decide +kernel, rfl, by decide +kernel, by decide +kernel⟩
theorem oki_NoText {f : Addr} {fd : FuncData} (Fn : Fun K "__init__" "NoText.__init__" si_NoText f fd) : FnOk P w K mg base (L2.CX P w) 1 f fd ["self", "at"] (spX K ["at"]) := by
  refine Fn.okX sci_NoText (fun vs H Q E h => h.1) (fun cdv A outer s H vs Q E hr h => ?_)
  exact ⟨_, (pss_one (ps_ost (pv 0) (pv 1))), init1 h⟩
def spLaw (K : PySem.W.Frag) : Sp := fun vs H Q _ => ∃ (a : Addr) (ns : List Int), vs = [.ref a] ∧ SqL K H a (ns.map V.int) ∧ ns.length ≤ 63 ∧ ∀ H', Q (.bl true) H'
theorem law_sp (hF : ∀ ns : List Int, ns.length ≤ 63 → ∃ as, F_law [.imm (.frl (ns.map D.int))] = .ret (.dat (.bl true)) as) {vs : List V} {H : Hp} {Q : VK} {E : XK} (h : spLaw K vs H Q E) : spD K mg 1 F_law vs H Q E := by
  obtain ⟨a, ns, rfl, hS, hl, q⟩ := h
  obtain ⟨as, hF⟩ := hF ns hl
  refine ⟨rfl, H, [.imm (.frl (ns.map D.int))], Sub.refl H, ⟨rfl, fun i v s h1 h2 => ?_, fun i j p h1 h2 => ?_⟩, ?_⟩
  · match i with
    | 0 =>
      cases h1
      cases h2
      exact .frl hS (ra_ints H ns)
    | i + 1 => cases h1
  · match i with
    | 0 => cases h1
    | i + 1 => cases h1
  · rw [hF]
    intro v G' H' _ hr
    cases hr
    exact q H'
theorem all_mk {h : Heap} {fa : Addr} {f_is_name f_is_row f_show_body f_read_body f__law_bag f__law_take f__law_names f__law_body f__law_odd_names f__law_written f__law_is_name f__law_row f__law_due f__law_told f__law_bent f_law C_NoText fi_NoText : Addr} (X : K.In h) (G : h.Ns mainGlobals mg) (hfa : mg "law" = some (.ref fa))
    {od_is_name an_is_name : Option Addr} {sl_is_name : Array (Option Value)} {oc_is_name kV_is_name dc_is_name pm_is_name cd_is_name ct_is_name : Value}
    {od_is_row an_is_row : Option Addr} {sl_is_row : Array (Option Value)} {oc_is_row kV_is_row dc_is_row pm_is_row cd_is_row ct_is_row : Value}
    {od_show_body an_show_body : Option Addr} {sl_show_body : Array (Option Value)} {oc_show_body kV_show_body dc_show_body pm_show_body cd_show_body ct_show_body : Value}
    {od_read_body an_read_body : Option Addr} {sl_read_body : Array (Option Value)} {oc_read_body kV_read_body dc_read_body pm_read_body cd_read_body ct_read_body : Value}
    {od__law_bag an__law_bag : Option Addr} {sl__law_bag : Array (Option Value)} {oc__law_bag kV__law_bag dc__law_bag pm__law_bag cd__law_bag ct__law_bag : Value}
    {od__law_take an__law_take : Option Addr} {sl__law_take : Array (Option Value)} {oc__law_take kV__law_take dc__law_take pm__law_take cd__law_take ct__law_take : Value}
    {od__law_names an__law_names : Option Addr} {sl__law_names : Array (Option Value)} {oc__law_names kV__law_names dc__law_names pm__law_names cd__law_names ct__law_names : Value}
    {od__law_body an__law_body : Option Addr} {sl__law_body : Array (Option Value)} {oc__law_body kV__law_body dc__law_body pm__law_body cd__law_body ct__law_body : Value}
    {od__law_odd_names an__law_odd_names : Option Addr} {sl__law_odd_names : Array (Option Value)} {oc__law_odd_names kV__law_odd_names dc__law_odd_names pm__law_odd_names cd__law_odd_names ct__law_odd_names : Value}
    {od__law_written an__law_written : Option Addr} {sl__law_written : Array (Option Value)} {oc__law_written kV__law_written dc__law_written pm__law_written cd__law_written ct__law_written : Value}
    {od__law_is_name an__law_is_name : Option Addr} {sl__law_is_name : Array (Option Value)} {oc__law_is_name kV__law_is_name dc__law_is_name pm__law_is_name cd__law_is_name ct__law_is_name : Value}
    {od__law_row an__law_row : Option Addr} {sl__law_row : Array (Option Value)} {oc__law_row kV__law_row dc__law_row pm__law_row cd__law_row ct__law_row : Value}
    {od__law_due an__law_due : Option Addr} {sl__law_due : Array (Option Value)} {oc__law_due kV__law_due dc__law_due pm__law_due cd__law_due ct__law_due : Value}
    {od__law_told an__law_told : Option Addr} {sl__law_told : Array (Option Value)} {oc__law_told kV__law_told dc__law_told pm__law_told cd__law_told ct__law_told : Value}
    {od__law_bent an__law_bent : Option Addr} {sl__law_bent : Array (Option Value)} {oc__law_bent kV__law_bent dc__law_bent pm__law_bent cd__law_bent ct__law_bent : Value}
    {od_law an_law : Option Addr} {sl_law : Array (Option Value)} {oc_law kV_law dc_law pm_law cd_law ct_law : Value}
    {od_iNoText an_iNoText : Option Addr} {sl_iNoText : Array (Option Value)} {oc_iNoText kV_iNoText dc_iNoText pm_iNoText cd_iNoText ct_iNoText : Value}
    {nm_NoText q_NoText : Str} {N_NoText : Addr} {bs_NoText : List Value} {sn_NoText : List Str} {sub_NoText : List Value} {ab_NoText : Bool} {col_NoText : Option Bool} {dd_NoText : Option Addr} {m0_NoText m1_NoText m2_NoText m3_NoText m5_NoText : Option Value}
    {t_DASH : Tok}
    {t_MOST_LETTERS : Tok}
    {t_MOST_ROWS : Tok}
    (hF : ∀ ns : List Int, ns.length ≤ 63 → ∃ as, F_law [.imm (.frl (ns.map D.int))] = .ret (.dat (.bl true)) as)
    (a_is_name : PySem.W.nsIn K mainGlobals "is_name" = some (some (.ref f_is_name)))
    (l_is_name : K.lookup f_is_name = some ⟨oc_is_name, od_is_name, .func (PySem.W.fnOf "is_name" "is_name" (defArgs s_is_name) (defBody s_is_name) (defScope s_is_name) .none kV_is_name dc_is_name pm_is_name an_is_name cd_is_name ct_is_name), sl_is_name⟩)
    (c_is_name : PySem.W.codeIn K cd_is_name "is_name" = true)
    (k_is_name : PySem.W.keepIn K (.ref f_is_name) = true)
    (a_is_row : PySem.W.nsIn K mainGlobals "is_row" = some (some (.ref f_is_row)))
    (l_is_row : K.lookup f_is_row = some ⟨oc_is_row, od_is_row, .func (PySem.W.fnOf "is_row" "is_row" (defArgs s_is_row) (defBody s_is_row) (defScope s_is_row) .none kV_is_row dc_is_row pm_is_row an_is_row cd_is_row ct_is_row), sl_is_row⟩)
    (c_is_row : PySem.W.codeIn K cd_is_row "is_row" = true)
    (k_is_row : PySem.W.keepIn K (.ref f_is_row) = true)
    (a_show_body : PySem.W.nsIn K mainGlobals "show_body" = some (some (.ref f_show_body)))
    (l_show_body : K.lookup f_show_body = some ⟨oc_show_body, od_show_body, .func (PySem.W.fnOf "show_body" "show_body" (defArgs s_show_body) (defBody s_show_body) (defScope s_show_body) .none kV_show_body dc_show_body pm_show_body an_show_body cd_show_body ct_show_body), sl_show_body⟩)
    (c_show_body : PySem.W.codeIn K cd_show_body "show_body" = true)
    (k_show_body : PySem.W.keepIn K (.ref f_show_body) = true)
    (a_read_body : PySem.W.nsIn K mainGlobals "read_body" = some (some (.ref f_read_body)))
    (l_read_body : K.lookup f_read_body = some ⟨oc_read_body, od_read_body, .func (PySem.W.fnOf "read_body" "read_body" (defArgs s_read_body) (defBody s_read_body) (defScope s_read_body) .none kV_read_body dc_read_body pm_read_body an_read_body cd_read_body ct_read_body), sl_read_body⟩)
    (c_read_body : PySem.W.codeIn K cd_read_body "read_body" = true)
    (k_read_body : PySem.W.keepIn K (.ref f_read_body) = true)
    (a__law_bag : PySem.W.nsIn K mainGlobals "_law_bag" = some (some (.ref f__law_bag)))
    (l__law_bag : K.lookup f__law_bag = some ⟨oc__law_bag, od__law_bag, .func (PySem.W.fnOf "_law_bag" "_law_bag" (defArgs s__law_bag) (defBody s__law_bag) (defScope s__law_bag) .none kV__law_bag dc__law_bag pm__law_bag an__law_bag cd__law_bag ct__law_bag), sl__law_bag⟩)
    (c__law_bag : PySem.W.codeIn K cd__law_bag "_law_bag" = true)
    (k__law_bag : PySem.W.keepIn K (.ref f__law_bag) = true)
    (a__law_take : PySem.W.nsIn K mainGlobals "_law_take" = some (some (.ref f__law_take)))
    (l__law_take : K.lookup f__law_take = some ⟨oc__law_take, od__law_take, .func (PySem.W.fnOf "_law_take" "_law_take" (defArgs s__law_take) (defBody s__law_take) (defScope s__law_take) .none kV__law_take dc__law_take pm__law_take an__law_take cd__law_take ct__law_take), sl__law_take⟩)
    (c__law_take : PySem.W.codeIn K cd__law_take "_law_take" = true)
    (k__law_take : PySem.W.keepIn K (.ref f__law_take) = true)
    (a__law_names : PySem.W.nsIn K mainGlobals "_law_names" = some (some (.ref f__law_names)))
    (l__law_names : K.lookup f__law_names = some ⟨oc__law_names, od__law_names, .func (PySem.W.fnOf "_law_names" "_law_names" (defArgs s__law_names) (defBody s__law_names) (defScope s__law_names) .none kV__law_names dc__law_names pm__law_names an__law_names cd__law_names ct__law_names), sl__law_names⟩)
    (c__law_names : PySem.W.codeIn K cd__law_names "_law_names" = true)
    (k__law_names : PySem.W.keepIn K (.ref f__law_names) = true)
    (a__law_body : PySem.W.nsIn K mainGlobals "_law_body" = some (some (.ref f__law_body)))
    (l__law_body : K.lookup f__law_body = some ⟨oc__law_body, od__law_body, .func (PySem.W.fnOf "_law_body" "_law_body" (defArgs s__law_body) (defBody s__law_body) (defScope s__law_body) .none kV__law_body dc__law_body pm__law_body an__law_body cd__law_body ct__law_body), sl__law_body⟩)
    (c__law_body : PySem.W.codeIn K cd__law_body "_law_body" = true)
    (k__law_body : PySem.W.keepIn K (.ref f__law_body) = true)
    (a__law_odd_names : PySem.W.nsIn K mainGlobals "_law_odd_names" = some (some (.ref f__law_odd_names)))
    (l__law_odd_names : K.lookup f__law_odd_names = some ⟨oc__law_odd_names, od__law_odd_names, .func (PySem.W.fnOf "_law_odd_names" "_law_odd_names" (defArgs s__law_odd_names) (defBody s__law_odd_names) (defScope s__law_odd_names) .none kV__law_odd_names dc__law_odd_names pm__law_odd_names an__law_odd_names cd__law_odd_names ct__law_odd_names), sl__law_odd_names⟩)
    (c__law_odd_names : PySem.W.codeIn K cd__law_odd_names "_law_odd_names" = true)
    (k__law_odd_names : PySem.W.keepIn K (.ref f__law_odd_names) = true)
    (a__law_written : PySem.W.nsIn K mainGlobals "_law_written" = some (some (.ref f__law_written)))
    (l__law_written : K.lookup f__law_written = some ⟨oc__law_written, od__law_written, .func (PySem.W.fnOf "_law_written" "_law_written" (defArgs s__law_written) (defBody s__law_written) (defScope s__law_written) .none kV__law_written dc__law_written pm__law_written an__law_written cd__law_written ct__law_written), sl__law_written⟩)
    (c__law_written : PySem.W.codeIn K cd__law_written "_law_written" = true)
    (k__law_written : PySem.W.keepIn K (.ref f__law_written) = true)
    (a__law_is_name : PySem.W.nsIn K mainGlobals "_law_is_name" = some (some (.ref f__law_is_name)))
    (l__law_is_name : K.lookup f__law_is_name = some ⟨oc__law_is_name, od__law_is_name, .func (PySem.W.fnOf "_law_is_name" "_law_is_name" (defArgs s__law_is_name) (defBody s__law_is_name) (defScope s__law_is_name) .none kV__law_is_name dc__law_is_name pm__law_is_name an__law_is_name cd__law_is_name ct__law_is_name), sl__law_is_name⟩)
    (c__law_is_name : PySem.W.codeIn K cd__law_is_name "_law_is_name" = true)
    (k__law_is_name : PySem.W.keepIn K (.ref f__law_is_name) = true)
    (a__law_row : PySem.W.nsIn K mainGlobals "_law_row" = some (some (.ref f__law_row)))
    (l__law_row : K.lookup f__law_row = some ⟨oc__law_row, od__law_row, .func (PySem.W.fnOf "_law_row" "_law_row" (defArgs s__law_row) (defBody s__law_row) (defScope s__law_row) .none kV__law_row dc__law_row pm__law_row an__law_row cd__law_row ct__law_row), sl__law_row⟩)
    (c__law_row : PySem.W.codeIn K cd__law_row "_law_row" = true)
    (k__law_row : PySem.W.keepIn K (.ref f__law_row) = true)
    (a__law_due : PySem.W.nsIn K mainGlobals "_law_due" = some (some (.ref f__law_due)))
    (l__law_due : K.lookup f__law_due = some ⟨oc__law_due, od__law_due, .func (PySem.W.fnOf "_law_due" "_law_due" (defArgs s__law_due) (defBody s__law_due) (defScope s__law_due) .none kV__law_due dc__law_due pm__law_due an__law_due cd__law_due ct__law_due), sl__law_due⟩)
    (c__law_due : PySem.W.codeIn K cd__law_due "_law_due" = true)
    (k__law_due : PySem.W.keepIn K (.ref f__law_due) = true)
    (a__law_told : PySem.W.nsIn K mainGlobals "_law_told" = some (some (.ref f__law_told)))
    (l__law_told : K.lookup f__law_told = some ⟨oc__law_told, od__law_told, .func (PySem.W.fnOf "_law_told" "_law_told" (defArgs s__law_told) (defBody s__law_told) (defScope s__law_told) .none kV__law_told dc__law_told pm__law_told an__law_told cd__law_told ct__law_told), sl__law_told⟩)
    (c__law_told : PySem.W.codeIn K cd__law_told "_law_told" = true)
    (k__law_told : PySem.W.keepIn K (.ref f__law_told) = true)
    (a__law_bent : PySem.W.nsIn K mainGlobals "_law_bent" = some (some (.ref f__law_bent)))
    (l__law_bent : K.lookup f__law_bent = some ⟨oc__law_bent, od__law_bent, .func (PySem.W.fnOf "_law_bent" "_law_bent" (defArgs s__law_bent) (defBody s__law_bent) (defScope s__law_bent) .none kV__law_bent dc__law_bent pm__law_bent an__law_bent cd__law_bent ct__law_bent), sl__law_bent⟩)
    (c__law_bent : PySem.W.codeIn K cd__law_bent "_law_bent" = true)
    (k__law_bent : PySem.W.keepIn K (.ref f__law_bent) = true)
    (a_law : PySem.W.nsIn K mainGlobals "law" = some (some (.ref f_law)))
    (l_law : K.lookup f_law = some ⟨oc_law, od_law, .func (PySem.W.fnOf "law" "law" (defArgs s_law) (defBody s_law) (defScope s_law) .none kV_law dc_law pm_law an_law cd_law ct_law), sl_law⟩)
    (c_law : PySem.W.codeIn K cd_law "law" = true)
    (k_law : PySem.W.keepIn K (.ref f_law) = true)
    (aC_NoText : PySem.W.nsIn K mainGlobals "NoText" = some (some (.ref C_NoText)))
    (xL_NoText : K.lookup C_NoText = some (excClassObj nm_NoText q_NoText C_NoText N_NoText bs_NoText [.type "ValueError", .type "Exception", .type "BaseException", .type "object"] true sn_NoText sub_NoText ab_NoText col_NoText dd_NoText m0_NoText m1_NoText m2_NoText m3_NoText m5_NoText "ValueError.__new__"))
    (sa_NoText : PySem.W.findIn K (.ref C_NoText) "__setattr__" = some (some (.builtin "object.__setattr__")))
    (eC_NoText : PySem.W.subIn K (.ref C_NoText) (.type "BaseException") = some true)
    (tC_NoText : PySem.W.typeIn K (.ref C_NoText) = some (.type "type"))
    (kC_NoText : PySem.W.keepIn K (.ref C_NoText) = true)
    (iC_NoText : PySem.W.isClsIn K C_NoText = true)
    (sC_NoText : PySem.W.subIn K (.ref C_NoText) (.ref C_NoText) = some true)
    (hC_NoText : PySem.W.hasDictIn K C_NoText = true)
    (ga_NoText : PySem.W.findIn K (.ref C_NoText) "__getattribute__" = some (some (.builtin "BaseException.__getattribute__")))
    (gg_NoText : PySem.W.findIn K (.ref C_NoText) "__getattr__" = some none)
    (no_NoText_at : PySem.W.findIn K (.ref C_NoText) "at" = some none)
    (ai_NoText : PySem.W.findIn K (.ref C_NoText) "__init__" = some (some (.ref fi_NoText)))
    (ti_NoText : PySem.W.typeIn K (.ref fi_NoText) = some (.type "function"))
    (li_NoText : K.lookup fi_NoText = some ⟨oc_iNoText, od_iNoText, .func (PySem.W.fnOf "__init__" "NoText.__init__" (defArgs si_NoText) (defBody si_NoText) (defScope si_NoText) .none kV_iNoText dc_iNoText pm_iNoText an_iNoText cd_iNoText ct_iNoText), sl_iNoText⟩)
    (ci_NoText : PySem.W.codeIn K cd_iNoText "NoText.__init__" = true)
    (ki_NoText : PySem.W.keepIn K (.ref fi_NoText) = true)
    (g_DASH : PySem.W.nsIn K mainGlobals "DASH" = some (some (.str "-" t_DASH)))
    (g_MOST_LETTERS : PySem.W.nsIn K mainGlobals "MOST_LETTERS" = some (some (.int 8 t_MOST_LETTERS)))
    (g_MOST_ROWS : PySem.W.nsIn K mainGlobals "MOST_ROWS" = some (some (.int 6 t_MOST_ROWS)))
    (z_abs : PySem.W.nsIn K mainGlobals "abs" = some none)
    (z_all : PySem.W.nsIn K mainGlobals "all" = some none)
    (z_bool : PySem.W.nsIn K mainGlobals "bool" = some none)
    (z_enumerate : PySem.W.nsIn K mainGlobals "enumerate" = some none)
    (z_isinstance : PySem.W.nsIn K mainGlobals "isinstance" = some none)
    (z_len : PySem.W.nsIn K mainGlobals "len" = some none)
    (z_max : PySem.W.nsIn K mainGlobals "max" = some none)
    (z_min : PySem.W.nsIn K mainGlobals "min" = some none)
    (z_range : PySem.W.nsIn K mainGlobals "range" = some none)
    (z_sorted : PySem.W.nsIn K mainGlobals "sorted" = some none)
    (z_str : PySem.W.nsIn K mainGlobals "str" = some none)
    (z_tuple : PySem.W.nsIn K mainGlobals "tuple" = some none)
    : ∃ fd : FuncData, (∀ (s : Shared) (v : Value), BindsTo s fd ⟨[v], []⟩ [("_law_script", v)]) ∧ ∀ base : Heap, K.In base → base.Ns mainGlobals mg → FnOk P w K mg base (L2.CX P w) 5 fa fd ["_law_script"] (spLaw K) := by
  have e := hfa.symm.trans (PySem.W.mg_of X G a_law)
  cases e
  have b_abs := PySem.W.mg_none_of X G z_abs
  have b_all := PySem.W.mg_none_of X G z_all
  have b_bool := PySem.W.mg_none_of X G z_bool
  have b_enumerate := PySem.W.mg_none_of X G z_enumerate
  have b_isinstance := PySem.W.mg_none_of X G z_isinstance
  have b_len := PySem.W.mg_none_of X G z_len
  have b_max := PySem.W.mg_none_of X G z_max
  have b_min := PySem.W.mg_none_of X G z_min
  have b_range := PySem.W.mg_none_of X G z_range
  have b_sorted := PySem.W.mg_none_of X G z_sorted
  have b_str := PySem.W.mg_none_of X G z_str
  have b_tuple := PySem.W.mg_none_of X G z_tuple
  have c_DASH := PySem.W.mg_of X G g_DASH
  have c_MOST_LETTERS := PySem.W.mg_of X G g_MOST_LETTERS
  have c_MOST_ROWS := PySem.W.mg_of X G g_MOST_ROWS
  have Fi_NoText := fun_mk (st := si_NoText) li_NoText ci_NoText ki_NoText
  have bi_NoText := Fi_NoText.binds (ps := ["self", "at"]) fun _ _ _ _ _ _ us hl => match us, hl with | [_, _], _ => rfl
  have X_NoText : ∀ base : Heap, ExcOk P w K mg base "NoText" ["at"] C_NoText := fun base => ⟨PySem.W.mg_of X G aC_NoText, ⟨⟨nm_NoText, q_NoText, N_NoText, bs_NoText, _, sn_NoText, sub_NoText, ab_NoText, col_NoText, dd_NoText, m0_NoText, m1_NoText, m2_NoText, m3_NoText, m5_NoText, xL_NoText, by decide +kernel⟩, sa_NoText, eC_NoText, tC_NoText, kC_NoText⟩, by simp only [List.forall_mem_cons]; exact ⟨no_NoText_at, fun _ h => nomatch h⟩, exm_own eC_NoText iC_NoText tC_NoText sC_NoText, ⟨ga_NoText, gg_NoText, eC_NoText, hC_NoText⟩, fi_NoText, _, ai_NoText, ti_NoText, bi_NoText, oki_NoText Fi_NoText⟩
  have F_is_name' := fun_mk (st := s_is_name) l_is_name c_is_name k_is_name
  have b_is_name' := F_is_name'.binds (ps := ["thing"]) fun _ _ _ _ _ _ us hl => match us, hl with | [_], _ => rfl
  have O_is_name := fun base : Heap => ok_is_name (P := P) (w := w) (mg := mg) (base := base) F_is_name' c_MOST_LETTERS b_isinstance b_len b_str
  have D_is_name : ∀ base : Heap, Def P w K mg base "is_name" 1 ["thing"] 1 F_is_name := fun base => ⟨f_is_name, _, PySem.W.mg_of X G a_is_name, k_is_name, b_is_name', O_is_name base⟩
  have F_show_body' := fun_mk (st := s_show_body) l_show_body c_show_body k_show_body
  have b_show_body' := F_show_body'.binds (ps := ["body"]) fun _ _ _ _ _ _ us hl => match us, hl with | [_], _ => rfl
  have O_show_body := fun base : Heap => ok_show_body (P := P) (w := w) (mg := mg) (base := base) F_show_body' c_DASH
  have D_show_body : ∀ base : Heap, Def P w K mg base "show_body" 1 ["body"] 1 F_show_body := fun base => ⟨f_show_body, _, PySem.W.mg_of X G a_show_body, k_show_body, b_show_body', O_show_body base⟩
  have F__law_bag' := fun_mk (st := s__law_bag) l__law_bag c__law_bag k__law_bag
  have b__law_bag' := F__law_bag'.binds (ps := ["_law_script", "_law_at"]) fun _ _ _ _ _ _ us hl => match us, hl with | [_, _], _ => rfl
  have O__law_bag := fun base : Heap => ok__law_bag (P := P) (w := w) (mg := mg) (base := base) F__law_bag' b_abs b_len
  have D__law_bag : ∀ base : Heap, Def P w K mg base "_law_bag" 1 ["_law_script", "_law_at"] 2 F__law_bag := fun base => ⟨f__law_bag, _, PySem.W.mg_of X G a__law_bag, k__law_bag, b__law_bag', O__law_bag base⟩
  have F__law_take' := fun_mk (st := s__law_take) l__law_take c__law_take k__law_take
  have b__law_take' := F__law_take'.binds (ps := ["_law_bag_here", "_law_many"]) fun _ _ _ _ _ _ us hl => match us, hl with | [_, _], _ => rfl
  have O__law_take := fun base : Heap => ok__law_take (P := P) (w := w) (mg := mg) (base := base) F__law_take'
  have D__law_take : ∀ base : Heap, Def P w K mg base "_law_take" 1 ["_law_bag_here", "_law_many"] 2 F__law_take := fun base => ⟨f__law_take, _, PySem.W.mg_of X G a__law_take, k__law_take, b__law_take', O__law_take base⟩
  have F__law_written' := fun_mk (st := s__law_written) l__law_written c__law_written k__law_written
  have b__law_written' := F__law_written'.binds (ps := ["_law_rows"]) fun _ _ _ _ _ _ us hl => match us, hl with | [_], _ => rfl
  have O__law_written := fun base : Heap => ok__law_written (P := P) (w := w) (mg := mg) (base := base) F__law_written' b_len
  have D__law_written : ∀ base : Heap, Def P w K mg base "_law_written" 1 ["_law_rows"] 1 F__law_written := fun base => ⟨f__law_written, _, PySem.W.mg_of X G a__law_written, k__law_written, b__law_written', O__law_written base⟩
  have F__law_is_name' := fun_mk (st := s__law_is_name) l__law_is_name c__law_is_name k__law_is_name
  have b__law_is_name' := F__law_is_name'.binds (ps := ["_law_word"]) fun _ _ _ _ _ _ us hl => match us, hl with | [_], _ => rfl
  have O__law_is_name := fun base : Heap => ok__law_is_name (P := P) (w := w) (mg := mg) (base := base) F__law_is_name' b_all b_len
  have D__law_is_name : ∀ base : Heap, Def P w K mg base "_law_is_name" 1 ["_law_word"] 1 F__law_is_name := fun base => ⟨f__law_is_name, _, PySem.W.mg_of X G a__law_is_name, k__law_is_name, b__law_is_name', O__law_is_name base⟩
  have F_is_row' := fun_mk (st := s_is_row) l_is_row c_is_row k_is_row
  have b_is_row' := F_is_row'.binds (ps := ["call", "thing"]) fun _ _ _ _ _ _ us hl => match us, hl with | [_, _], _ => rfl
  have O_is_row := fun base : Heap => ok_is_row (P := P) (w := w) (mg := mg) (base := base) F_is_row' (D_is_name base) b_isinstance b_len b_tuple
  have D_is_row : ∀ base : Heap, Def P w K mg base "is_row" 2 ["call", "thing"] 2 F_is_row := fun base => ⟨f_is_row, _, PySem.W.mg_of X G a_is_row, k_is_row, b_is_row', O_is_row base⟩
  have F__law_names' := fun_mk (st := s__law_names) l__law_names c__law_names k__law_names
  have b__law_names' := F__law_names'.binds (ps := ["_law_bag_here", "_law_many"]) fun _ _ _ _ _ _ us hl => match us, hl with | [_, _], _ => rfl
  have O__law_names := fun base : Heap => ok__law_names (P := P) (w := w) (mg := mg) (base := base) F__law_names' (D__law_take base) b_range
  have D__law_names : ∀ base : Heap, Def P w K mg base "_law_names" 2 ["_law_bag_here", "_law_many"] 2 F__law_names := fun base => ⟨f__law_names, _, PySem.W.mg_of X G a__law_names, k__law_names, b__law_names', O__law_names base⟩
  have F__law_body' := fun_mk (st := s__law_body) l__law_body c__law_body k__law_body
  have b__law_body' := F__law_body'.binds (ps := ["_law_bag_here", "_law_call", "_law_calls", "_law_words"]) fun _ _ _ _ _ _ us hl => match us, hl with | [_, _, _, _], _ => rfl
  have O__law_body := fun base : Heap => ok__law_body (P := P) (w := w) (mg := mg) (base := base) F__law_body' (D__law_take base) b_len b_range b_tuple
  have D__law_body : ∀ base : Heap, Def P w K mg base "_law_body" 2 ["_law_bag_here", "_law_call", "_law_calls", "_law_words"] 4 F__law_body := fun base => ⟨f__law_body, _, PySem.W.mg_of X G a__law_body, k__law_body, b__law_body', O__law_body base⟩
  have F__law_odd_names' := fun_mk (st := s__law_odd_names) l__law_odd_names c__law_odd_names k__law_odd_names
  have b__law_odd_names' := F__law_odd_names'.binds (ps := ["_law_bag_here", "_law_names_here"]) fun _ _ _ _ _ _ us hl => match us, hl with | [_, _], _ => rfl
  have O__law_odd_names := fun base : Heap => ok__law_odd_names (P := P) (w := w) (mg := mg) (base := base) F__law_odd_names' (D__law_take base) b_len
  have D__law_odd_names : ∀ base : Heap, Def P w K mg base "_law_odd_names" 2 ["_law_bag_here", "_law_names_here"] 2 F__law_odd_names := fun base => ⟨f__law_odd_names, _, PySem.W.mg_of X G a__law_odd_names, k__law_odd_names, b__law_odd_names', O__law_odd_names base⟩
  have F__law_row' := fun_mk (st := s__law_row) l__law_row c__law_row k__law_row
  have b__law_row' := F__law_row'.binds (ps := ["_law_call", "_law_word"]) fun _ _ _ _ _ _ us hl => match us, hl with | [_, _], _ => rfl
  have O__law_row := fun base : Heap => ok__law_row (P := P) (w := w) (mg := mg) (base := base) F__law_row' (D__law_is_name base)
  have D__law_row : ∀ base : Heap, Def P w K mg base "_law_row" 2 ["_law_call", "_law_word"] 2 F__law_row := fun base => ⟨f__law_row, _, PySem.W.mg_of X G a__law_row, k__law_row, b__law_row', O__law_row base⟩
  have F__law_bent' := fun_mk (st := s__law_bent) l__law_bent c__law_bent k__law_bent
  have b__law_bent' := F__law_bent'.binds (ps := ["_law_bag_here", "_law_text"]) fun _ _ _ _ _ _ us hl => match us, hl with | [_, _], _ => rfl
  have O__law_bent := fun base : Heap => ok__law_bent (P := P) (w := w) (mg := mg) (base := base) F__law_bent' (D__law_take base) b_len
  have D__law_bent : ∀ base : Heap, Def P w K mg base "_law_bent" 2 ["_law_bag_here", "_law_text"] 2 F__law_bent := fun base => ⟨f__law_bent, _, PySem.W.mg_of X G a__law_bent, k__law_bent, b__law_bent', O__law_bent base⟩
  have F_read_body' := fun_mk (st := s_read_body) l_read_body c_read_body k_read_body
  have b_read_body' := F_read_body'.binds (ps := ["call", "string"]) fun _ _ _ _ _ _ us hl => match us, hl with | [_, _], _ => rfl
  have O_read_body := fun base : Heap => ok_read_body (P := P) (w := w) (mg := mg) (base := base) F_read_body' (D_is_row base) c_DASH c_MOST_ROWS b_enumerate b_isinstance b_len b_str b_tuple (X_NoText base)
  have D_read_body : ∀ base : Heap, Def P w K mg base "read_body" 3 ["call", "string"] 2 F_read_body := fun base => ⟨f_read_body, _, PySem.W.mg_of X G a_read_body, k_read_body, b_read_body', O_read_body base⟩
  have F__law_due' := fun_mk (st := s__law_due) l__law_due c__law_due k__law_due
  have b__law_due' := F__law_due'.binds (ps := ["_law_call", "_law_thing"]) fun _ _ _ _ _ _ us hl => match us, hl with | [_, _], _ => rfl
  have O__law_due := fun base : Heap => ok__law_due (P := P) (w := w) (mg := mg) (base := base) F__law_due' (D__law_row base) b_isinstance b_len b_str b_tuple
  have D__law_due : ∀ base : Heap, Def P w K mg base "_law_due" 3 ["_law_call", "_law_thing"] 2 F__law_due := fun base => ⟨f__law_due, _, PySem.W.mg_of X G a__law_due, k__law_due, b__law_due', O__law_due base⟩
  have F__law_told' := fun_mk (st := s__law_told) l__law_told c__law_told k__law_told
  have b__law_told' := F__law_told'.binds (ps := ["_law_call", "_law_thing"]) fun _ _ _ _ _ _ us hl => match us, hl with | [_, _], _ => rfl
  have O__law_told := fun base : Heap => ok__law_told (P := P) (w := w) (mg := mg) (base := base) F__law_told' (D_read_body base) (X_NoText base)
  have D__law_told : ∀ base : Heap, Def P w K mg base "_law_told" 4 ["_law_call", "_law_thing"] 2 F__law_told := fun base => ⟨f__law_told, _, PySem.W.mg_of X G a__law_told, k__law_told, b__law_told', O__law_told base⟩
  have F_law' := fun_mk (st := s_law) l_law c_law k_law
  have b_law' := F_law'.binds (ps := ["_law_script"]) fun _ _ _ _ _ _ us hl => match us, hl with | [_], _ => rfl
  have O_law := fun base : Heap => ok_law (P := P) (w := w) (mg := mg) (base := base) F_law' (D__law_bag base) (D__law_odd_names base) (D__law_names base) (D__law_take base) (D__law_body base) (D__law_written base) (D_show_body base) (D_read_body base) (D__law_bent base) (D__law_told base) (D__law_due base) b_bool b_isinstance b_len b_max b_min b_range b_sorted b_str
  exact ⟨_, fun s v => .of_eq rfl, fun base _ _ => (O_law base).imp fun vs H Q E h => law_sp hF h⟩
end
end DL.K46

namespace DL.K46
open PySem L2 PySem.Spec PyProof.Rows
theorem take_1 {a b c m : Int} (ha : 0 < a) (hm : 0 < m) (hm2 : m < 1073741824) : F__law_take [.par (bag a b c), .imm (.int m)] = .ret (.dat (.int (a.fmod m))) [.par (bag (a.fdiv m) b c), .imm (.int m)] := by
  have h1 : m ≠ 0 := by omega
  have h2 : m.natAbs < 1073741824 := by omega
  simp [F__law_take, B__law_take, funF, sSeq_ap, sIf_ap, bBl_ap, bTr_ap, bAnd_ap, bOr_ap, bNot_ap, eAnd_ap, eOr_ap, eNot_ap, eIf_ap, eOp_ap, eUn_ap, settled_ap, settle, eVar_ap, eC_ap, sAsg_ap, gN_ap, gT_ap, gsNil_ap, gsCons_ap, cont, conts, Slot.data, blD, truD, Out.bind, Out.of, Out.toS, OutS.bind, OutS.of, assign, put, storable, freeze, freezes, frz1, aNil_ap, aCons_ap, eCB_ap, eTup_ap, eLst_ap, eDic_ap, sRet_ap, handOut, setOwn, slotD, ownL, ownD, intD, strD, sSetL_ap, gSetL_ap, sNext_ap, eCall_ap, callF, toArg, toArgs, onceEach, isSlot, back, backSlot, sPar_ap, sPar2_ap, eM1_ap, eMT_ap, eSl_ap, oNone_ap, oPart_ap, eBmL_ap, eBmD_ap, eDGet2_ap, sPut_ap, eSetd_ap, sRaise_ap, eChain_ap, eCBK_ap, srcV_ap, srcE_ap, srcZ_ap, List.findIdx?_cons, sm0, sm1, sm2, sm3, sm4, sm5, gIx, bag, atI, ixN, gB, gGtU, gIC, CDivN, ha, h1, h2]
theorem take_2 {a b c m : Int} (ha : ¬ 0 < a) (hm : 0 < m) (hm2 : m < 1073741824) (hb : 0 ≤ b ∧ b < 2147483647) (hc : 0 ≤ c ∧ c < 1000000) : ∃ r b', 0 ≤ r ∧ r < m ∧ 0 ≤ b' ∧ b' < 2147483647 ∧ F__law_take [.par (bag a b c), .imm (.int m)] = .ret (.dat (.int r)) [.par (bag a b' (c + 1)), .imm (.int m)] := by
  have h1 : m ≠ 0 := by omega
  have h2 : mulOk b 48271 = true := mulOk_r (by omega)
  have h3 : mulOk 6607 (c + 1) = true := mulOk_l (by omega)
  have h4 : mulOk (6607 * (c + 1)) (c + 1) = true := mulOk_r (by omega)
  have g := Int.fmod_eq_emod_of_nonneg (b * 48271 + 6607 * (c + 1) * (c + 1) + 5) (b := 2147483647) (by omega)
  have g1 := Int.emod_nonneg (b * 48271 + 6607 * (c + 1) * (c + 1) + 5) (b := 2147483647) (by omega)
  have g2 := Int.emod_lt_of_pos (b * 48271 + 6607 * (c + 1) * (c + 1) + 5) (b := 2147483647) (by omega)
  generalize hx : (b * 48271 + 6607 * (c + 1) * (c + 1) + 5) = x at *
  have h5 : CPow ((x.fmod 2147483647).fdiv 16) 3 := by
    rw [g]
    refine ⟨by omega, by omega, ?_⟩
    rw [Int.fdiv_eq_ediv_of_nonneg _ (by omega)]
    omega
  refine ⟨((((x.fmod 2147483647).fdiv 16) ^ (3 : Nat)).fmod 2147483587).fmod m, x.fmod 2147483647, ?_, ?_, by omega, by omega, ?_⟩
  case refine_3 =>
    simp [F__law_take, B__law_take, funF, sSeq_ap, sIf_ap, bBl_ap, bTr_ap, bAnd_ap, bOr_ap, bNot_ap, eAnd_ap, eOr_ap, eNot_ap, eIf_ap, eOp_ap, eUn_ap, settled_ap, settle, eVar_ap, eC_ap, sAsg_ap, gN_ap, gT_ap, gsNil_ap, gsCons_ap, cont, conts, Slot.data, blD, truD, Out.bind, Out.of, Out.toS, OutS.bind, OutS.of, assign, put, storable, freeze, freezes, frz1, aNil_ap, aCons_ap, eCB_ap, eTup_ap, eLst_ap, eDic_ap, sRet_ap, handOut, setOwn, slotD, ownL, ownD, intD, strD, sSetL_ap, gSetL_ap, sNext_ap, eCall_ap, callF, toArg, toArgs, onceEach, isSlot, back, backSlot, sPar_ap, sPar2_ap, eM1_ap, eMT_ap, eSl_ap, oNone_ap, oPart_ap, eBmL_ap, eBmD_ap, eDGet2_ap, sPut_ap, eSetd_ap, sRaise_ap, eChain_ap, eCBK_ap, srcV_ap, srcE_ap, srcZ_ap, List.findIdx?_cons, sm0, sm1, sm2, sm3, sm4, sm5, gIx, bag, atI, ixN, gB, gGtU, gIC, gMulU, gAddU, CDivN, ha, h1, h2, h3, h4, hx, h5]
  · rw [Int.fmod_eq_emod_of_nonneg _ (by omega)]
    exact Int.emod_nonneg _ h1
  · rw [Int.fmod_eq_emod_of_nonneg _ (by omega)]
    exact Int.emod_lt_of_pos _ hm
def BagOk (n : Nat) (d : D) : Prop := ∃ a b c, d = bag a b c ∧ 0 ≤ b ∧ b < 2147483647 ∧ 0 ≤ c ∧ c ≤ n
theorem BagOk.mono {n m : Nat} {d : D} (h : BagOk n d) (hm : n ≤ m) : BagOk m d := by
  obtain ⟨a, b, c, h1, h2, h3, h4, h5⟩ := h
  exact ⟨a, b, c, h1, h2, h3, h4, by omega⟩
theorem take_spec {n : Nat} {d : D} {m : Int} (h : BagOk n d) (hn : n < 100000) (hm : 0 < m) (hm2 : m < 1073741824) :
    ∃ r d', 0 ≤ r ∧ r < m ∧ BagOk (n + 1) d' ∧ F__law_take [.par d, .imm (.int m)] = .ret (.dat (.int r)) [.par d', .imm (.int m)] := by
  obtain ⟨a, b, c, rfl, h2, h3, h4, h5⟩ := h
  by_cases ha : 0 < a
  · refine ⟨a.fmod m, _, ?_, ?_, ⟨a.fdiv m, b, c, rfl, h2, h3, h4, by omega⟩, take_1 ha hm hm2⟩
    · rw [Int.fmod_eq_emod_of_nonneg _ (by omega)]
      exact Int.emod_nonneg _ (by omega)
    · rw [Int.fmod_eq_emod_of_nonneg _ (by omega)]
      exact Int.emod_lt_of_pos _ hm
  · obtain ⟨r, b', h6, h7, h8, h9, e⟩ := take_2 (c := c) ha hm hm2 ⟨h2, h3⟩ ⟨h4, by omega⟩
    exact ⟨r, _, h6, h7, ⟨a, b', c + 1, rfl, h8, h9, by omega, by omega⟩, e⟩
/-- the same for a nat -/
theorem take_nat {n : Nat} {d : D} {m : Nat} (h : BagOk n d) (hn : n < 100000) (hm : 0 < m) (hm2 : m < 1073741824) :
    ∃ (r : Nat) (d' : D), r < m ∧ BagOk (n + 1) d' ∧ F__law_take [.par d, .imm (.int (m : Int))] = .ret (.dat (.int (r : Int))) [.par d', .imm (.int (m : Int))] := by
  obtain ⟨r, d', h1, h2, h3, e⟩ := take_spec h hn (m := (m : Int)) (by omega) (by omega)
  refine ⟨r.toNat, d', by omega, h3, ?_⟩
  rw [e, Int.toNat_of_nonneg h1]
/-- the same for a written number -/
theorem take_k {n : Nat} {d : D} {m : Nat} {mi : Int} (hmi : (m : Int) = mi) (h : BagOk n d) (hn : n < 100000) (hm : 0 < m) (hm2 : m < 1073741824) :
    ∃ (r : Nat) (d' : D), r < m ∧ BagOk (n + 1) d' ∧ F__law_take [.par d, .imm (.int mi)] = .ret (.dat (.int (r : Int))) [.par d', .imm (.int mi)] := by
  subst hmi
  exact take_nat h hn hm hm2
theorem bag_spec {ns : List Int} {k : Nat} (hk : k < 1000) : ∃ d, BagOk 0 d ∧ F__law_bag [.imm (.frl (ns.map D.int)), .imm (.int k)] = .ret (.new d) [.imm (.frl (ns.map D.int)), .imm (.int k)] := by
  have key : ∀ cell : Int, CPow (cell.fmod 2147483647 + 7121 * (k : Int) + 11) 3 := fun cell => by
    rw [Int.fmod_eq_emod_of_nonneg _ (by omega)]
    have := Int.emod_nonneg cell (b := 2147483647) (by omega)
    have := Int.emod_lt_of_pos cell (b := 2147483647) (by omega)
    refine ⟨by omega, by omega, by omega⟩
  have p1 : CPow 10 18 := ⟨by omega, by omega, by decide⟩
  have m1 : mulOk 7121 (k : Int) = true := mulOk_l (by omega)
  have fin : ∀ x y : Int, BagOk 0 (bag x (y.fmod 2147483629) 0) := fun x y => by
    refine ⟨x, _, 0, rfl, ?_, ?_, by omega, by omega⟩
    · rw [Int.fmod_eq_emod_of_nonneg _ (by omega)]
      exact Int.emod_nonneg _ (by omega)
    · rw [Int.fmod_eq_emod_of_nonneg _ (by omega)]
      have := Int.emod_lt_of_pos y (b := 2147483629) (by omega)
      omega
  by_cases hl : k < ns.length
  · have hk2 := key (ns[k])
    by_cases hb : 1000000000000000000 ≤ (if ns[k] < 0 then -ns[k] else ns[k])
    · refine ⟨_, fin (if ns[k] < 0 then -ns[k] else ns[k]) ((ns[k].fmod 2147483647 + 7121 * (k : Int) + 11) ^ (3 : Nat)), ?_⟩
      simp [F__law_bag, B__law_bag, funF, sSeq_ap, sIf_ap, bBl_ap, bTr_ap, bAnd_ap, bOr_ap, bNot_ap, eAnd_ap, eOr_ap, eNot_ap, eIf_ap, eOp_ap, eUn_ap, settled_ap, settle, eVar_ap, eC_ap, sAsg_ap, gN_ap, gT_ap, gsNil_ap, gsCons_ap, cont, conts, Slot.data, blD, truD, Out.bind, Out.of, Out.toS, OutS.bind, OutS.of, assign, put, storable, freeze, freezes, frz1, aNil_ap, aCons_ap, eCB_ap, eTup_ap, eLst_ap, eDic_ap, sRet_ap, handOut, setOwn, slotD, ownL, ownD, intD, strD, sSetL_ap, gSetL_ap, sNext_ap, eCall_ap, callF, toArg, toArgs, onceEach, isSlot, back, backSlot, sPar_ap, sPar2_ap, eM1_ap, eMT_ap, eSl_ap, oNone_ap, oPart_ap, eBmL_ap, eBmD_ap, eDGet2_ap, sPut_ap, eSetd_ap, sRaise_ap, eChain_ap, eCBK_ap, srcV_ap, srcE_ap, srcZ_ap, List.findIdx?_cons, sm0, sm1, sm2, sm3, sm4, sm5, gIx, bag, gB, gGtU, gIC, gMulU, gAddU, gLenU, gAbs, p1, m1, small, sizeLine, hl, hb, hk2]
    · refine ⟨_, fin 0 ((ns[k].fmod 2147483647 + 7121 * (k : Int) + 11) ^ (3 : Nat)), ?_⟩
      simp [F__law_bag, B__law_bag, funF, sSeq_ap, sIf_ap, bBl_ap, bTr_ap, bAnd_ap, bOr_ap, bNot_ap, eAnd_ap, eOr_ap, eNot_ap, eIf_ap, eOp_ap, eUn_ap, settled_ap, settle, eVar_ap, eC_ap, sAsg_ap, gN_ap, gT_ap, gsNil_ap, gsCons_ap, cont, conts, Slot.data, blD, truD, Out.bind, Out.of, Out.toS, OutS.bind, OutS.of, assign, put, storable, freeze, freezes, frz1, aNil_ap, aCons_ap, eCB_ap, eTup_ap, eLst_ap, eDic_ap, sRet_ap, handOut, setOwn, slotD, ownL, ownD, intD, strD, sSetL_ap, gSetL_ap, sNext_ap, eCall_ap, callF, toArg, toArgs, onceEach, isSlot, back, backSlot, sPar_ap, sPar2_ap, eM1_ap, eMT_ap, eSl_ap, oNone_ap, oPart_ap, eBmL_ap, eBmD_ap, eDGet2_ap, sPut_ap, eSetd_ap, sRaise_ap, eChain_ap, eCBK_ap, srcV_ap, srcE_ap, srcZ_ap, List.findIdx?_cons, sm0, sm1, sm2, sm3, sm4, sm5, gIx, bag, gB, gGtU, gIC, gMulU, gAddU, gLenU, gAbs, p1, m1, small, sizeLine, hl, hb, hk2]
  · have hk2 := key 0
    refine ⟨_, fin 0 ((Int.fmod 0 2147483647 + 7121 * (k : Int) + 11) ^ (3 : Nat)), ?_⟩
    simp at hk2
    simp [F__law_bag, B__law_bag, funF, sSeq_ap, sIf_ap, bBl_ap, bTr_ap, bAnd_ap, bOr_ap, bNot_ap, eAnd_ap, eOr_ap, eNot_ap, eIf_ap, eOp_ap, eUn_ap, settled_ap, settle, eVar_ap, eC_ap, sAsg_ap, gN_ap, gT_ap, gsNil_ap, gsCons_ap, cont, conts, Slot.data, blD, truD, Out.bind, Out.of, Out.toS, OutS.bind, OutS.of, assign, put, storable, freeze, freezes, frz1, aNil_ap, aCons_ap, eCB_ap, eTup_ap, eLst_ap, eDic_ap, sRet_ap, handOut, setOwn, slotD, ownL, ownD, intD, strD, sSetL_ap, gSetL_ap, sNext_ap, eCall_ap, callF, toArg, toArgs, onceEach, isSlot, back, backSlot, sPar_ap, sPar2_ap, eM1_ap, eMT_ap, eSl_ap, oNone_ap, oPart_ap, eBmL_ap, eBmD_ap, eDGet2_ap, sPut_ap, eSetd_ap, sRaise_ap, eChain_ap, eCBK_ap, srcV_ap, srcE_ap, srcZ_ap, List.findIdx?_cons, sm0, sm1, sm2, sm3, sm4, sm5, gIx, bag, gB, gGtU, gIC, gMulU, gAddU, gLenU, gAbs, p1, m1, small, sizeLine, hl, hk2]
end DL.K46

namespace DL.K46
open PySem L2 PySem.Spec PyProof.Rows

/-! ### the names -/
def ltr (i : Nat) : Str := ⟨#[97 + i]⟩
theorem letters_cps : ("abcdefghijklmnopqrstuvwxyz" : Str).cps.toList = (List.range 26).map fun i => 97 + i := by decide +kernel
def LtrOk (L : Str) : Prop := ∀ i : Nat, i < 26 → gIx (.str L) (.int (i : Int)) = some (.dat (.str (ltr i)))
theorem letters_ix {L : Str} (hc : L.cps.toList = (List.range 26).map fun i => 97 + i) (hs : small L.length = true) : LtrOk L := by
  intro i h
  show (if small L.length then (atI L.cps.toList (i : Int)).map fun c => EV.dat (.str ⟨#[c]⟩) else none) = _
  rw [if_pos hs, hc, atI_get (x := 97 + i) (by simp [h])]
  rfl
theorem letters_ok : LtrOk "abcdefghijklmnopqrstuvwxyz" := letters_ix letters_cps (by decide +kernel)
theorem name_first {L : Str} (hL : LtrOk L) {d : D} {n : Nat} {m : Int} (h : BagOk n d) (hn : n < 90000) {s : Nat} (hs : s ≤ 7) {p : Int} :
    ∃ (bs : List Nat) (d' : D), bs.length = s ∧ (∀ b ∈ bs, b < 26) ∧ BagOk (n + s) d' ∧
    X1__law_names [.par d, .imm (.int m), .imm (.str L), .imm (.int s), .imm (.int p), .no, .no, .no, .no, .no] =
      .val (.new (.lst ((bs.map ltr).map .str))) [.par d', .imm (.int m), .imm (.str L), .imm (.int s), .imm (.int p), .no, .no, .no, .no, .no] := by
  have key := eLc_inv (s := rngS 0 s) (fs := srcR1 (aCons (eVar 3) aNil)) (g := gN 8) (ft := fun env => .val true env) (fe := eOp gIx (eVar 2) (settled (eCall 2 F__law_take (aCons (eVar 0) (aCons (eC (.int 26)) aNil))))) (vs := [8])
    (env := [.par d, .imm (.int m), .imm (.str L), .imm (.int s), .imm (.int p), .no, .no, .no, .no, .no]) (e0 := [.par d, .imm (.int m), .imm (.str L), .imm (.int s), .imm (.int p), .no, .no, .no, .no, .no])
    (I := fun i acc env => ∃ (bs : List Nat) (d' : D), bs.length = i ∧ (∀ b ∈ bs, b < 26) ∧ BagOk (n + i) d' ∧ acc = (bs.map ltr).map D.str ∧ env = [.par d', .imm (.int m), .imm (.str L), .imm (.int s), .imm (.int p), .no, .no, .no, .no, .no])
    ?_ ?_ ?_ ?_ ?_
  · obtain ⟨acc, env', e, bs, d', h1, h2, h3, rfl, rfl⟩ := key
    exact ⟨bs, d', h1, h2, h3, e⟩
  · exact srcR1_nat (n := s) (as := [.dat (.int s)]) rfl rfl (by omega)
  · rfl
  · exact ⟨[], d, rfl, (fun _ z => by cases z), h, rfl, rfl⟩
  · exact fun _ _ _ => rfl
  · rintro i acc env hi ⟨bs, d', h1, h2, h3, rfl, rfl⟩
    have hi : i < s := hi
    obtain ⟨r, d2, h4, h5, e⟩ := take_nat h3 (by omega) (m := 26) (by omega) (by omega)
    rw [show ((26 : Nat) : Int) = 26 from rfl] at e
    refine ⟨_, some (.str (ltr r)), _, rfl, ?_, ?_, bs ++ [r], d2, ?_, ?_, h5, ?_, rfl⟩
    · simp [oneC, funF, sSeq_ap, sIf_ap, bBl_ap, bTr_ap, bAnd_ap, bOr_ap, bNot_ap, eAnd_ap, eOr_ap, eNot_ap, eIf_ap, eOp_ap, eUn_ap, settled_ap, settle, eVar_ap, eC_ap, sAsg_ap, gN_ap, gT_ap, gsNil_ap, gsCons_ap, cont, conts, Slot.data, blD, truD, Out.bind, Out.of, Out.toS, OutS.bind, OutS.of, assign, put, storable, freeze, freezes, frz1, aNil_ap, aCons_ap, eCB_ap, eTup_ap, eLst_ap, eDic_ap, sRet_ap, handOut, setOwn, slotD, ownL, ownD, intD, strD, sSetL_ap, gSetL_ap, sNext_ap, eCall_ap, callF, toArg, toArgs, onceEach, isSlot, back, backSlot, sPar_ap, sPar2_ap, eM1_ap, eMT_ap, eSl_ap, oNone_ap, oPart_ap, eBmL_ap, eBmD_ap, eDGet2_ap, sPut_ap, eSetd_ap, sRaise_ap, eChain_ap, eCBK_ap, srcV_ap, srcE_ap, srcZ_ap, List.findIdx?_cons, sm0, sm1, sm2, sm3, sm4, sm5, wipable, wipeE, e, hL r h4]
    · simp [h1]; unfold sizeLine; omega
    · simp [h1]
    · intro b hb
      rcases List.mem_append.mp hb with q | q
      · exact h2 b q
      · rw [List.mem_singleton.mp q]
        exact h4
    · simp

theorem sum_ones {α : Type} (l : List α) : (l.map fun _ => 1).sum = l.length := by
  induction l with
  | nil => rfl
  | cons a r ih => rw [List.map_cons, List.sum_cons, ih, List.length_cons]; omega
theorem join_ltr (bs : List Nat) : (Txt.join "" (bs.map ltr)).length = bs.length := by
  show (Builtin.Str.glued "" (bs.map ltr)).length = _
  rw [size_glued]
  have h0 : ("" : Str).length = 0 := by decide +kernel
  rw [h0, Nat.mul_zero, Nat.add_zero, List.map_map]
  have : (fun x : Str => x.length) ∘ ltr = fun _ => 1 := by
    funext i
    rfl
  rw [this, sum_ones]
theorem gJoin_ltr {bs : List Nat} (h : bs.length ≤ 7) : gJoin (.str "") (.lst ((bs.map ltr).map .str)) = some (.dat (.str (Txt.join "" (bs.map ltr)))) := by
  have key : ∀ l : List Str, strsD (l.map D.str) = some l := fun l => by
    induction l with
    | nil => rfl
    | cons a r ih => simp [strsD, strD, ih]
  have h0 : ("" : Str).length = 0 := by decide +kernel
  have hm : ((bs.map ltr).map (·.length)).sum = bs.length := by
    rw [List.map_map]
    have : (fun x : Str => x.length) ∘ ltr = fun _ => 1 := by
      funext i
      rfl
    rw [this, sum_ones]
  show ((strD (.str "")).bind fun s => (seqD (.lst ((bs.map ltr).map .str))).bind fun ds => (strsD ds).bind fun ys => if (ys.map (·.length)).sum + ys.length * s.length ≤ 16777216 then some (EV.dat (.str (Txt.join s ys))) else none) = _
  show ((strsD ((bs.map ltr).map .str)).bind fun ys => if (ys.map (·.length)).sum + ys.length * ("" : Str).length ≤ 16777216 then some (EV.dat (.str (Txt.join "" ys))) else none) = _
  rw [key]
  show (if ((bs.map ltr).map (·.length)).sum + (bs.map ltr).length * ("" : Str).length ≤ 16777216 then _ else _) = _
  rw [if_pos (by rw [hm, h0]; omega)]
def nameAt (p : Int) (B : Str) (f : Nat) (k : Nat) : Str := if p = 0 then B ++ ltr ((f + 7 * k) % 26) else ltr ((f + 7 * k) % 26) ++ B
theorem str_app_inj {x y z : Str} (h : x ++ y = x ++ z) : y = z := by
  cases x; cases y; cases z
  have h : Str.mk _ = Str.mk _ := h
  simp only [Str.mk.injEq] at h ⊢
  have h := congrArg Array.toList h
  rw [Array.toList_append, Array.toList_append] at h
  exact Array.toList_inj.mp (List.append_cancel_left h)
theorem str_app_inj' {x y z : Str} (h : y ++ x = z ++ x) : y = z := by
  cases x; cases y; cases z
  have h : Str.mk _ = Str.mk _ := h
  simp only [Str.mk.injEq] at h ⊢
  have h := congrArg Array.toList h
  rw [Array.toList_append, Array.toList_append] at h
  exact Array.toList_inj.mp (List.append_cancel_right h)
theorem ltr_inj {i j : Nat} (h : ltr i = ltr j) : i = j := by
  simp [ltr] at h
  omega
theorem nameAt_inj {p : Int} {B : Str} {f i j : Nat} (hi : i < 26) (hj : j < 26) (h : nameAt p B f i = nameAt p B f j) : i = j := by
  unfold nameAt at h
  have : (f + 7 * i) % 26 = (f + 7 * j) % 26 := by
    split at h
    · exact ltr_inj (str_app_inj h)
    · exact ltr_inj (str_app_inj' h)
  omega
theorem nameAt_len (p : Int) (B : Str) (f k : Nat) : (nameAt p B f k).length = B.length + 1 := by
  have h1 : ∀ x y : Str, (x ++ y).length = x.length + y.length := fun x y => Array.size_append
  have h2 : ∀ i, (ltr i).length = 1 := fun _ => rfl
  unfold nameAt
  split
  · rw [h1, h2]
  · rw [h1, h2]; omega
theorem name_second {L : Str} (hLt : LtrOk L) {d4 : D} {m s r2 r3 : Nat} (hm : m ≤ 26) {B : Str} :
    X2__law_names [.par d4, .imm (.int m), .imm (.str L), .imm (.int s), .imm (.int r2), .imm (.int r3), .imm (.str B), .no, .no, .no] =
    .val (.new (.lst ((List.range m).map fun k => .str (ltr ((r3 + 7 * k) % 26))))) [.par d4, .imm (.int m), .imm (.str L), .imm (.int s), .imm (.int r2), .imm (.int r3), .imm (.str B), .no, .no, .no] := by
  refine eLc_map (s := rngS 0 m) (xs := List.range m) (inj := fun k => .int (k : Nat)) (srcR1_nat (n := m) (as := [.dat (.int m)]) rfl rfl (by omega)) rfl rfl rfl (by simp) (fun i x hx => ?_) (fun k hk => ?_) ?_
  · obtain ⟨h1, h2⟩ := List.getElem?_eq_some_iff.mp hx
    simp at h2
    simp [h2]
  · have hk := List.mem_range.mp hk
    have hc : mulOk 7 (k : Int) = true := mulOk_l (by omega)
    have hf : Int.fmod ((r3 : Int) + 7 * (k : Int)) 26 = (((r3 + 7 * k) % 26 : Nat) : Int) := by
      rw [Int.fmod_eq_emod_of_nonneg _ (by omega)]
      omega
    have := hLt ((r3 + 7 * k) % 26) (Nat.mod_lt _ (by omega))
    rw [show (((r3 + 7 * k) % 26 : Nat) : Int) = ((r3 : Int) + 7 * (k : Int)) % 26 by omega] at this hf
    simp [oneC, funF, sSeq_ap, sIf_ap, bBl_ap, bTr_ap, bAnd_ap, bOr_ap, bNot_ap, eAnd_ap, eOr_ap, eNot_ap, eIf_ap, eOp_ap, eUn_ap, settled_ap, settle, eVar_ap, eC_ap, sAsg_ap, gN_ap, gT_ap, gsNil_ap, gsCons_ap, cont, conts, Slot.data, blD, truD, Out.bind, Out.of, Out.toS, OutS.bind, OutS.of, assign, put, storable, freeze, freezes, frz1, aNil_ap, aCons_ap, eCB_ap, eTup_ap, eLst_ap, eDic_ap, sRet_ap, handOut, setOwn, slotD, ownL, ownD, intD, strD, sSetL_ap, gSetL_ap, sNext_ap, eCall_ap, callF, toArg, toArgs, onceEach, isSlot, back, backSlot, sPar_ap, sPar2_ap, eM1_ap, eMT_ap, eSl_ap, oNone_ap, oPart_ap, eBmL_ap, eBmD_ap, eDGet2_ap, sPut_ap, eSetd_ap, sRaise_ap, eChain_ap, eCBK_ap, srcV_ap, srcE_ap, srcZ_ap, List.findIdx?_cons, sm0, sm1, sm2, sm3, sm4, sm5, gMulU, gAddU, gIC, hc, hf, this, wipable, wipeE]
  · rw [List.length_range]
    unfold sizeLine
    omega
theorem name_third {L : Str} {d4 : D} {m s r2 r3 : Nat} (hm : m ≤ 26) {B : Str} (hB : B.length ≤ 7) :
    X3__law_names [.par d4, .imm (.int m), .imm (.str L), .imm (.int s), .imm (.int r2), .imm (.int r3), .imm (.str B), .own (.lst ((List.range m).map fun k => .str (ltr ((r3 + 7 * k) % 26)))), .no, .no] =
    .val (.new (.lst ((List.range m).map fun k => .str (nameAt r2 B r3 k)))) [.par d4, .imm (.int m), .imm (.str L), .imm (.int s), .imm (.int r2), .imm (.int r3), .imm (.str B), .imm (.lst ((List.range m).map fun k => .str (ltr ((r3 + 7 * k) % 26)))), .no, .no] := by
  have hlen : ∀ k, (ltr k).length = 1 := fun _ => rfl
  generalize hO : ((List.range m).map fun k => D.str (ltr ((r3 + 7 * k) % 26))) = O
  refine eLc_map (s := datS O) (xs := List.range m) (inj := fun k => .str (ltr ((r3 + 7 * k) % 26))) rfl rfl rfl rfl (by simp [← hO]) (fun i x hx => ?_) (fun k hk => ?_) ?_
  · obtain ⟨h1, h2⟩ := List.getElem?_eq_some_iff.mp hx
    simp at h1 h2
    subst h2
    rw [← hO]
    simp only [datS_it, List.getElem?_map, List.getElem?_range h1, Option.map_some]
  · have hk := List.mem_range.mp hk
    have hz1 : small (B.length + (ltr ((r3 + 7 * k) % 26)).length) = true := decide_eq_true (by rw [hlen]; unfold sizeLine; omega)
    have hz2 : small ((ltr ((r3 + 7 * k) % 26)).length + B.length) = true := decide_eq_true (by rw [hlen]; unfold sizeLine; omega)
    by_cases hr : r2 = 0
    · simp [oneC, funF, sSeq_ap, sIf_ap, bBl_ap, bTr_ap, bAnd_ap, bOr_ap, bNot_ap, eAnd_ap, eOr_ap, eNot_ap, eIf_ap, eOp_ap, eUn_ap, settled_ap, settle, eVar_ap, eC_ap, sAsg_ap, gN_ap, gT_ap, gsNil_ap, gsCons_ap, cont, conts, Slot.data, blD, truD, Out.bind, Out.of, Out.toS, OutS.bind, OutS.of, assign, put, storable, freeze, freezes, frz1, aNil_ap, aCons_ap, eCB_ap, eTup_ap, eLst_ap, eDic_ap, sRet_ap, handOut, setOwn, slotD, ownL, ownD, intD, strD, sSetL_ap, gSetL_ap, sNext_ap, eCall_ap, callF, toArg, toArgs, onceEach, isSlot, back, backSlot, sPar_ap, sPar2_ap, eM1_ap, eMT_ap, eSl_ap, oNone_ap, oPart_ap, eBmL_ap, eBmD_ap, eDGet2_ap, sPut_ap, eSetd_ap, sRaise_ap, eChain_ap, eCBK_ap, srcV_ap, srcE_ap, srcZ_ap, List.findIdx?_cons, sm0, sm1, sm2, sm3, sm4, sm5, gAddU, gEqU, eqD, wipable, wipeE, hz1, hz2, nameAt, hr]
    · simp [oneC, funF, sSeq_ap, sIf_ap, bBl_ap, bTr_ap, bAnd_ap, bOr_ap, bNot_ap, eAnd_ap, eOr_ap, eNot_ap, eIf_ap, eOp_ap, eUn_ap, settled_ap, settle, eVar_ap, eC_ap, sAsg_ap, gN_ap, gT_ap, gsNil_ap, gsCons_ap, cont, conts, Slot.data, blD, truD, Out.bind, Out.of, Out.toS, OutS.bind, OutS.of, assign, put, storable, freeze, freezes, frz1, aNil_ap, aCons_ap, eCB_ap, eTup_ap, eLst_ap, eDic_ap, sRet_ap, handOut, setOwn, slotD, ownL, ownD, intD, strD, sSetL_ap, gSetL_ap, sNext_ap, eCall_ap, callF, toArg, toArgs, onceEach, isSlot, back, backSlot, sPar_ap, sPar2_ap, eM1_ap, eMT_ap, eSl_ap, oNone_ap, oPart_ap, eBmL_ap, eBmD_ap, eDGet2_ap, sPut_ap, eSetd_ap, sRaise_ap, eChain_ap, eCBK_ap, srcV_ap, srcE_ap, srcZ_ap, List.findIdx?_cons, sm0, sm1, sm2, sm3, sm4, sm5, gAddU, gEqU, eqD, wipable, wipeE, hz1, hz2, nameAt, hr]
  · rw [List.length_range]
    unfold sizeLine
    omega
theorem low_ltr {i : Nat} (h : i < 26) : ∀ c ∈ (ltr i).cps.toList, low c = true := by
  intro c hc
  have : c = 97 + i := by simpa [ltr] using hc
  simp [low]
  omega
theorem low_join {bs : List Nat} (h : ∀ b ∈ bs, b < 26) : ∀ c ∈ (Txt.join "" (bs.map ltr)).cps.toList, low c = true := by
  have h0 : ("" : Str).cps = #[] := by decide +kernel
  have key : ∀ (ps : List Str) (acc : Array Nat), (∀ c ∈ acc.toList, low c = true) → (∀ p ∈ ps, ∀ c ∈ p.cps.toList, low c = true) → ∀ c ∈ (ps.foldl (fun acc p => acc ++ ("" : Str).cps ++ p.cps) acc).toList, low c = true := by
    intro ps
    induction ps with
    | nil => exact fun acc h _ => h
    | cons p r ih =>
      intro acc ha hp
      rw [List.foldl_cons]
      refine ih _ (fun c hc => ?_) fun q hq => hp q (by simp [hq])
      rw [h0, Array.append_empty, Array.toList_append] at hc
      rcases List.mem_append.mp hc with z | z
      · exact ha c z
      · exact hp p (by simp) c z
  show ∀ c ∈ (((bs.map ltr).drop 1).foldl (fun acc p => acc ++ ("" : Str).cps ++ p.cps) ((bs.map ltr).headD Str.empty).cps).toList, low c = true
  refine key _ _ (fun c hc => ?_) fun p hp => ?_
  · cases bs with
    | nil => simp [Str.empty] at hc
    | cons b r => exact low_ltr (h b (by simp)) c hc
  · have hp := List.mem_of_mem_drop hp
    obtain ⟨b, hb, rfl⟩ := List.mem_map.mp hp
    exact low_ltr (h b hb)
theorem nameAt_low {p : Int} {B : Str} {f k : Nat} (hB : ∀ c ∈ B.cps.toList, low c = true) : ∀ c ∈ (nameAt p B f k).cps.toList, low c = true := by
  have h := low_ltr (i := (f + 7 * k) % 26) (Nat.mod_lt _ (by omega))
  intro c hc
  unfold nameAt at hc
  split at hc <;> (rw [Str.cps_append, Array.toList_append] at hc; rcases List.mem_append.mp hc with z | z <;> first | exact hB c z | exact h c z)
theorem names_spec {d : D} {n m : Nat} (h : BagOk n d) (hn : n < 80000) (hm : m ≤ 26) : ∃ (ns : List Str) (d' : D), ns.length = m ∧ ns.Nodup ∧ (∀ x ∈ ns, nmS x = true) ∧ BagOk (n + 10) d' ∧
    F__law_names [.par d, .imm (.int (m : Int))] = .ret (.new (.lst (ns.map .str))) [.par d', .imm (.int (m : Int))] := by
  obtain ⟨r1, d1, hr1, b1, e1⟩ := take_nat h (by omega) (m := 5) (by omega) (by omega)
  obtain ⟨r2, d2, hr2, b2, e2⟩ := take_nat b1 (by omega) (m := 2) (by omega) (by omega)
  obtain ⟨r3, d3, hr3, b3, e3⟩ := take_nat b2 (by omega) (m := 26) (by omega) (by omega)
  rw [show ((5 : Nat) : Int) = 5 from rfl] at e1
  rw [show ((2 : Nat) : Int) = 2 from rfl] at e2
  rw [show ((26 : Nat) : Int) = 26 from rfl] at e3
  obtain ⟨s, hs, e4⟩ : ∃ s : Nat, s ≤ 7 ∧ gIx (.tup [.int 0, .int 0, .int 1, .int 3, .int 7]) (.int (r1 : Int)) = some (.dat (.int (s : Int))) := by
    match r1, hr1 with
    | 0, _ => exact ⟨0, by omega, rfl⟩
    | 1, _ => exact ⟨0, by omega, rfl⟩
    | 2, _ => exact ⟨1, by omega, rfl⟩
    | 3, _ => exact ⟨3, by omega, rfl⟩
    | 4, _ => exact ⟨7, by omega, rfl⟩
  generalize hL : ("abcdefghijklmnopqrstuvwxyz" : Str) = L
  have hLt : LtrOk L := hL ▸ letters_ok
  obtain ⟨bs, d4, hb1, hb2, b4, e5⟩ := name_first hLt b3 (by omega) hs (m := (m : Int)) (p := (r2 : Int))
  have e6 := gJoin_ltr (bs := bs) (by omega)
  have hB := join_ltr bs
  have hBk := low_join hb2
  generalize Txt.join "" (bs.map ltr) = B at e6 hB hBk
  have e7 := name_second hLt (d4 := d4) (s := s) (r2 := r2) (r3 := r3) hm (B := B)
  have e8 := name_third (L := L) (d4 := d4) (s := s) (r2 := r2) (r3 := r3) hm (B := B) (by omega)
  generalize ((List.range m).map fun k => D.str (ltr ((r3 + 7 * k) % 26))) = O at e7 e8
  refine ⟨(List.range m).map fun k => nameAt r2 B r3 k, d4, by simp, ?_, ?_, b4.mono (by omega), ?_⟩
  · rw [List.nodup_iff_pairwise_ne, List.pairwise_map]
    refine List.Pairwise.imp_of_mem ?_ (List.nodup_iff_pairwise_ne.mp List.nodup_range)
    intro i j hi hj hne e
    have hi := List.mem_range.mp hi
    have hj := List.mem_range.mp hj
    exact hne (nameAt_inj (by omega) (by omega) e)
  · intro x hx
    obtain ⟨k, _, rfl⟩ := List.mem_map.mp hx
    rw [nmS_iff, nameAt_len, hB]
    exact ⟨by omega, by omega, nameAt_low hBk⟩
  · have hmap : ((List.range m).map fun k => nameAt r2 B r3 k).map D.str = (List.range m).map fun k => .str (nameAt r2 B r3 k) := by simp
    rw [hmap]
    generalize ((List.range m).map fun k => D.str (nameAt r2 B r3 k)) = N at e8 ⊢
    generalize (bs.map ltr).map D.str = W at e5 e6
    simp [F__law_names, B__law_names, hL, funF, sSeq_ap, sIf_ap, bBl_ap, bTr_ap, bAnd_ap, bOr_ap, bNot_ap, eAnd_ap, eOr_ap, eNot_ap, eIf_ap, eOp_ap, eUn_ap, settled_ap, settle, eVar_ap, eC_ap, sAsg_ap, gN_ap, gT_ap, gsNil_ap, gsCons_ap, cont, conts, Slot.data, blD, truD, Out.bind, Out.of, Out.toS, OutS.bind, OutS.of, assign, put, storable, freeze, freezes, frz1, aNil_ap, aCons_ap, eCB_ap, eTup_ap, eLst_ap, eDic_ap, sRet_ap, handOut, setOwn, slotD, ownL, ownD, intD, strD, sSetL_ap, gSetL_ap, sNext_ap, eCall_ap, callF, toArg, toArgs, onceEach, isSlot, back, backSlot, sPar_ap, sPar2_ap, eM1_ap, eMT_ap, eSl_ap, oNone_ap, oPart_ap, eBmL_ap, eBmD_ap, eDGet2_ap, sPut_ap, eSetd_ap, sRaise_ap, eChain_ap, eCBK_ap, srcV_ap, srcE_ap, srcZ_ap, List.findIdx?_cons, sm0, sm1, sm2, sm3, sm4, sm5, e1, e2, e3, e4, e5, e6, e7, e8]
end DL.K46

namespace DL.K46
open PySem L2 PySem.Spec PyProof.Rows
theorem is_name_spec {x : Str} (h : small x.length = true) : F_is_name [.imm (.str x)] = .ret (.dat (.bl (nmS x))) [.imm (.str x)] := by
  have e := is_name_eq x
  have e2 := gLenU_str h
  rw [← e]
  by_cases hl : x.length ≤ 8
  · have h1 : ¬ (8 : Int) < x.length := by omega
    rw [decide_eq_true hl, Bool.true_and]
    cases h3 : Txt.isascii x <;> cases h4 : Txt.isalpha x <;> simp [F_is_name, B_is_name, funF, sSeq_ap, sIf_ap, bBl_ap, bTr_ap, bAnd_ap, bOr_ap, bNot_ap, eAnd_ap, eOr_ap, eNot_ap, eIf_ap, eOp_ap, eUn_ap, settled_ap, settle, eVar_ap, eC_ap, sAsg_ap, gN_ap, gT_ap, gsNil_ap, gsCons_ap, cont, conts, Slot.data, blD, truD, Out.bind, Out.of, Out.toS, OutS.bind, OutS.of, assign, put, storable, freeze, freezes, frz1, aNil_ap, aCons_ap, eCB_ap, eTup_ap, eLst_ap, eDic_ap, sRet_ap, handOut, setOwn, slotD, ownL, ownD, intD, strD, sSetL_ap, gSetL_ap, sNext_ap, eCall_ap, callF, toArg, toArgs, onceEach, isSlot, back, backSlot, sPar_ap, sPar2_ap, eM1_ap, eMT_ap, eSl_ap, oNone_ap, oPart_ap, eBmL_ap, eBmD_ap, eDGet2_ap, sPut_ap, eSetd_ap, sRaise_ap, eChain_ap, eCBK_ap, srcV_ap, srcE_ap, srcZ_ap, List.findIdx?_cons, sm0, sm1, sm2, sm3, sm4, sm5, isi_non_str, isi_non_tuple, isi_non_int, isi_non_bool, isi_non_list, isi_bl_str, isi_bl_tuple, isi_bl_int, isi_bl_bool, isi_bl_list, isi_int_str, isi_int_tuple, isi_int_int, isi_int_bool, isi_int_list, isi_str_str, isi_str_tuple, isi_str_int, isi_str_bool, isi_str_list, isi_lst_str, isi_lst_tuple, isi_lst_int, isi_lst_bool, isi_lst_list, isi_tup_str, isi_tup_tuple, isi_tup_int, isi_tup_bool, isi_tup_list, gGtU_int, e2, h1, eM0, h3, h4]
  · have h1 : (8 : Int) < x.length := by omega
    rw [decide_eq_false hl]
    simp [F_is_name, B_is_name, funF, sSeq_ap, sIf_ap, bBl_ap, bTr_ap, bAnd_ap, bOr_ap, bNot_ap, eAnd_ap, eOr_ap, eNot_ap, eIf_ap, eOp_ap, eUn_ap, settled_ap, settle, eVar_ap, eC_ap, sAsg_ap, gN_ap, gT_ap, gsNil_ap, gsCons_ap, cont, conts, Slot.data, blD, truD, Out.bind, Out.of, Out.toS, OutS.bind, OutS.of, assign, put, storable, freeze, freezes, frz1, aNil_ap, aCons_ap, eCB_ap, eTup_ap, eLst_ap, eDic_ap, sRet_ap, handOut, setOwn, slotD, ownL, ownD, intD, strD, sSetL_ap, gSetL_ap, sNext_ap, eCall_ap, callF, toArg, toArgs, onceEach, isSlot, back, backSlot, sPar_ap, sPar2_ap, eM1_ap, eMT_ap, eSl_ap, oNone_ap, oPart_ap, eBmL_ap, eBmD_ap, eDGet2_ap, sPut_ap, eSetd_ap, sRaise_ap, eChain_ap, eCBK_ap, srcV_ap, srcE_ap, srcZ_ap, List.findIdx?_cons, sm0, sm1, sm2, sm3, sm4, sm5, isi_non_str, isi_non_tuple, isi_non_int, isi_non_bool, isi_non_list, isi_bl_str, isi_bl_tuple, isi_bl_int, isi_bl_bool, isi_bl_list, isi_int_str, isi_int_tuple, isi_int_int, isi_int_bool, isi_int_list, isi_str_str, isi_str_tuple, isi_str_int, isi_str_bool, isi_str_list, isi_lst_str, isi_lst_tuple, isi_lst_int, isi_lst_bool, isi_lst_list, isi_tup_str, isi_tup_tuple, isi_tup_int, isi_tup_bool, isi_tup_list, gGtU_int, e2, h1]
theorem law_name_spec {x : Str} (h : small x.length = true) : F__law_is_name [.imm (.str x)] = .ret (.dat (.bl (nmS x))) [.imm (.str x)] := by
  have e2 := gLenU_str h
  by_cases h1 : 1 ≤ x.length
  · by_cases h2 : x.length ≤ 8
    · have hx : X1__law_is_name [.imm (.str x), .no] = .val (.new (.lst ((x.cps.toList).map fun c => .bl (low c)))) [.imm (.str x), .no] := by
        unfold X1__law_is_name
        refine eLc_map (s := strS x) (xs := x.cps.toList) (inj := fun c => .str ⟨#[c]⟩) (e0 := [.imm (.str x), .no]) ?_ rfl rfl rfl (by simp [strS]) (fun i c hc => ?_) (fun c hc => ?_) ?_
        · simp [srcS, funF, sSeq_ap, sIf_ap, bBl_ap, bTr_ap, bAnd_ap, bOr_ap, bNot_ap, eAnd_ap, eOr_ap, eNot_ap, eIf_ap, eOp_ap, eUn_ap, settled_ap, settle, eVar_ap, eC_ap, sAsg_ap, gN_ap, gT_ap, gsNil_ap, gsCons_ap, cont, conts, Slot.data, blD, truD, Out.bind, Out.of, Out.toS, OutS.bind, OutS.of, assign, put, storable, freeze, freezes, frz1, aNil_ap, aCons_ap, eCB_ap, eTup_ap, eLst_ap, eDic_ap, sRet_ap, handOut, setOwn, slotD, ownL, ownD, intD, strD, sSetL_ap, gSetL_ap, sNext_ap, eCall_ap, callF, toArg, toArgs, onceEach, isSlot, back, backSlot, sPar_ap, sPar2_ap, eM1_ap, eMT_ap, eSl_ap, oNone_ap, oPart_ap, eBmL_ap, eBmD_ap, eDGet2_ap, sPut_ap, eSetd_ap, sRaise_ap, eChain_ap, eCBK_ap, srcV_ap, srcE_ap, srcZ_ap, List.findIdx?_cons, sm0, sm1, sm2, sm3, sm4, sm5]
        · show (x.cps[i]?).map (fun c => D.str ⟨#[c]⟩) = _
          rw [← Array.getElem?_toList, hc]
          rfl
        · have hin := gInU_sign c "abcdefghijklmnopqrstuvwxyz"
          rw [letters_low] at hin
          generalize ("abcdefghijklmnopqrstuvwxyz" : Str) = L at hin ⊢
          simp [oneC, funF, sSeq_ap, sIf_ap, bBl_ap, bTr_ap, bAnd_ap, bOr_ap, bNot_ap, eAnd_ap, eOr_ap, eNot_ap, eIf_ap, eOp_ap, eUn_ap, settled_ap, settle, eVar_ap, eC_ap, sAsg_ap, gN_ap, gT_ap, gsNil_ap, gsCons_ap, cont, conts, Slot.data, blD, truD, Out.bind, Out.of, Out.toS, OutS.bind, OutS.of, assign, put, storable, freeze, freezes, frz1, aNil_ap, aCons_ap, eCB_ap, eTup_ap, eLst_ap, eDic_ap, sRet_ap, handOut, setOwn, slotD, ownL, ownD, intD, strD, sSetL_ap, gSetL_ap, sNext_ap, eCall_ap, callF, toArg, toArgs, onceEach, isSlot, back, backSlot, sPar_ap, sPar2_ap, eM1_ap, eMT_ap, eSl_ap, oNone_ap, oPart_ap, eBmL_ap, eBmD_ap, eDGet2_ap, sPut_ap, eSetd_ap, sRaise_ap, eChain_ap, eCBK_ap, srcV_ap, srcE_ap, srcZ_ap, List.findIdx?_cons, sm0, sm1, sm2, sm3, sm4, sm5, wipable, wipeE, hin]
        · have : x.cps.toList.length = x.length := by simp [Str.length]
          unfold sizeLine
          omega
      have ha := gAll_of low x.cps.toList
      have hn : nmS x = x.cps.toList.all low := by
        unfold nmS
        rw [decide_eq_true h1, decide_eq_true h2, ← Array.all_toList]
        rfl
      rw [hn]
      generalize (x.cps.toList).map (fun c => D.bl (low c)) = bs at hx ha
      have i1 : (1 : Int) ≤ x.length := by omega
      have i2 : (x.length : Int) ≤ 8 := by omega
      simp [F__law_is_name, B__law_is_name, funF, sSeq_ap, sIf_ap, bBl_ap, bTr_ap, bAnd_ap, bOr_ap, bNot_ap, eAnd_ap, eOr_ap, eNot_ap, eIf_ap, eOp_ap, eUn_ap, settled_ap, settle, eVar_ap, eC_ap, sAsg_ap, gN_ap, gT_ap, gsNil_ap, gsCons_ap, cont, conts, Slot.data, blD, truD, Out.bind, Out.of, Out.toS, OutS.bind, OutS.of, assign, put, storable, freeze, freezes, frz1, aNil_ap, aCons_ap, eCB_ap, eTup_ap, eLst_ap, eDic_ap, sRet_ap, handOut, setOwn, slotD, ownL, ownD, intD, strD, sSetL_ap, gSetL_ap, sNext_ap, eCall_ap, callF, toArg, toArgs, onceEach, isSlot, back, backSlot, sPar_ap, sPar2_ap, eM1_ap, eMT_ap, eSl_ap, oNone_ap, oPart_ap, eBmL_ap, eBmD_ap, eDGet2_ap, sPut_ap, eSetd_ap, sRaise_ap, eChain_ap, eCBK_ap, srcV_ap, srcE_ap, srcZ_ap, List.findIdx?_cons, sm0, sm1, sm2, sm3, sm4, sm5, e2, gB, i1, i2, hx, ha]
    · have hn : nmS x = false := by
        unfold nmS
        rw [decide_eq_false h2]
        simp
      have i1 : (1 : Int) ≤ x.length := by omega
      have i2 : ¬ (x.length : Int) ≤ 8 := by omega
      rw [hn]
      simp [F__law_is_name, B__law_is_name, funF, sSeq_ap, sIf_ap, bBl_ap, bTr_ap, bAnd_ap, bOr_ap, bNot_ap, eAnd_ap, eOr_ap, eNot_ap, eIf_ap, eOp_ap, eUn_ap, settled_ap, settle, eVar_ap, eC_ap, sAsg_ap, gN_ap, gT_ap, gsNil_ap, gsCons_ap, cont, conts, Slot.data, blD, truD, Out.bind, Out.of, Out.toS, OutS.bind, OutS.of, assign, put, storable, freeze, freezes, frz1, aNil_ap, aCons_ap, eCB_ap, eTup_ap, eLst_ap, eDic_ap, sRet_ap, handOut, setOwn, slotD, ownL, ownD, intD, strD, sSetL_ap, gSetL_ap, sNext_ap, eCall_ap, callF, toArg, toArgs, onceEach, isSlot, back, backSlot, sPar_ap, sPar2_ap, eM1_ap, eMT_ap, eSl_ap, oNone_ap, oPart_ap, eBmL_ap, eBmD_ap, eDGet2_ap, sPut_ap, eSetd_ap, sRaise_ap, eChain_ap, eCBK_ap, srcV_ap, srcE_ap, srcZ_ap, List.findIdx?_cons, sm0, sm1, sm2, sm3, sm4, sm5, e2, gB, i1, i2]
  · have hn : nmS x = false := by
      unfold nmS
      rw [decide_eq_false h1]
      simp
    have i1 : ¬ (1 : Int) ≤ x.length := by omega
    rw [hn]
    simp [F__law_is_name, B__law_is_name, funF, sSeq_ap, sIf_ap, bBl_ap, bTr_ap, bAnd_ap, bOr_ap, bNot_ap, eAnd_ap, eOr_ap, eNot_ap, eIf_ap, eOp_ap, eUn_ap, settled_ap, settle, eVar_ap, eC_ap, sAsg_ap, gN_ap, gT_ap, gsNil_ap, gsCons_ap, cont, conts, Slot.data, blD, truD, Out.bind, Out.of, Out.toS, OutS.bind, OutS.of, assign, put, storable, freeze, freezes, frz1, aNil_ap, aCons_ap, eCB_ap, eTup_ap, eLst_ap, eDic_ap, sRet_ap, handOut, setOwn, slotD, ownL, ownD, intD, strD, sSetL_ap, gSetL_ap, sNext_ap, eCall_ap, callF, toArg, toArgs, onceEach, isSlot, back, backSlot, sPar_ap, sPar2_ap, eM1_ap, eMT_ap, eSl_ap, oNone_ap, oPart_ap, eBmL_ap, eBmD_ap, eDGet2_ap, sPut_ap, eSetd_ap, sRaise_ap, eChain_ap, eCBK_ap, srcV_ap, srcE_ap, srcZ_ap, List.findIdx?_cons, sm0, sm1, sm2, sm3, sm4, sm5, e2, gB, i1]
def wD (ws : List Str) : D := .tup (ws.map D.str)
theorem wD_len (ws : List Str) : gLenU [wD ws] = some (.dat (.int ws.length)) := by simp [wD, gLenU]
theorem is_row_spec {call : Str} {ws : List Str} (h : ∀ w ∈ ws, small w.length = true) : F_is_row [.imm (.str call), .imm (wD ws)] = .ret (.dat (.bl (rowOk call ws))) [.imm (.str call), .imm (wD ws)] := by
  have i1 : gIsi [wD ws, .any (.ty "tuple")] = some (.dat (.bl true)) := isi_tup_tuple _
  have i2 := wD_len ws
  match ws, h, i1, i2 with
  | [], h, i1, i2 =>
    generalize wD [] = W at i1 i2 ⊢
    simp [F_is_row, B_is_row, funF, sSeq_ap, sIf_ap, bBl_ap, bTr_ap, bAnd_ap, bOr_ap, bNot_ap, eAnd_ap, eOr_ap, eNot_ap, eIf_ap, eOp_ap, eUn_ap, settled_ap, settle, eVar_ap, eC_ap, sAsg_ap, gN_ap, gT_ap, gsNil_ap, gsCons_ap, cont, conts, Slot.data, blD, truD, Out.bind, Out.of, Out.toS, OutS.bind, OutS.of, assign, put, storable, freeze, freezes, frz1, aNil_ap, aCons_ap, eCB_ap, eTup_ap, eLst_ap, eDic_ap, sRet_ap, handOut, setOwn, slotD, ownL, ownD, intD, strD, sSetL_ap, gSetL_ap, sNext_ap, eCall_ap, callF, toArg, toArgs, onceEach, isSlot, back, backSlot, sPar_ap, sPar2_ap, eM1_ap, eMT_ap, eSl_ap, oNone_ap, oPart_ap, eBmL_ap, eBmD_ap, eDGet2_ap, sPut_ap, eSetd_ap, sRaise_ap, eChain_ap, eCBK_ap, srcV_ap, srcE_ap, srcZ_ap, List.findIdx?_cons, sm0, sm1, sm2, sm3, sm4, sm5, i1, i2, gEqU_int, gNeU_int, rowOk]
  | [a], h, i1, i2 =>
    have i3 : gIx (wD [a]) (.int 0) = some (.dat (.str a)) := gIx_tup (n := 0) rfl
    generalize wD [a] = W at i1 i2 i3 ⊢
    simp [F_is_row, B_is_row, funF, sSeq_ap, sIf_ap, bBl_ap, bTr_ap, bAnd_ap, bOr_ap, bNot_ap, eAnd_ap, eOr_ap, eNot_ap, eIf_ap, eOp_ap, eUn_ap, settled_ap, settle, eVar_ap, eC_ap, sAsg_ap, gN_ap, gT_ap, gsNil_ap, gsCons_ap, cont, conts, Slot.data, blD, truD, Out.bind, Out.of, Out.toS, OutS.bind, OutS.of, assign, put, storable, freeze, freezes, frz1, aNil_ap, aCons_ap, eCB_ap, eTup_ap, eLst_ap, eDic_ap, sRet_ap, handOut, setOwn, slotD, ownL, ownD, intD, strD, sSetL_ap, gSetL_ap, sNext_ap, eCall_ap, callF, toArg, toArgs, onceEach, isSlot, back, backSlot, sPar_ap, sPar2_ap, eM1_ap, eMT_ap, eSl_ap, oNone_ap, oPart_ap, eBmL_ap, eBmD_ap, eDGet2_ap, sPut_ap, eSetd_ap, sRaise_ap, eChain_ap, eCBK_ap, srcV_ap, srcE_ap, srcZ_ap, List.findIdx?_cons, sm0, sm1, sm2, sm3, sm4, sm5, i1, i2, i3, gEqU_int, gNeU_int, gEqU_str, rowOk]
  | [a, b], h, i1, i2 =>
    have hn := is_name_spec (h b (by simp))
    have hs : ("say" : Str) ≠ "call" := by decide +kernel
    unfold wD at i1 i2 ⊢
    by_cases ha : a = "say"
    · simp [F_is_row, B_is_row, funF, sSeq_ap, sIf_ap, bBl_ap, bTr_ap, bAnd_ap, bOr_ap, bNot_ap, eAnd_ap, eOr_ap, eNot_ap, eIf_ap, eOp_ap, eUn_ap, settled_ap, settle, eVar_ap, eC_ap, sAsg_ap, gN_ap, gT_ap, gsNil_ap, gsCons_ap, cont, conts, Slot.data, blD, truD, Out.bind, Out.of, Out.toS, OutS.bind, OutS.of, assign, put, storable, freeze, freezes, frz1, aNil_ap, aCons_ap, eCB_ap, eTup_ap, eLst_ap, eDic_ap, sRet_ap, handOut, setOwn, slotD, ownL, ownD, intD, strD, sSetL_ap, gSetL_ap, sNext_ap, eCall_ap, callF, toArg, toArgs, onceEach, isSlot, back, backSlot, sPar_ap, sPar2_ap, eM1_ap, eMT_ap, eSl_ap, oNone_ap, oPart_ap, eBmL_ap, eBmD_ap, eDGet2_ap, sPut_ap, eSetd_ap, sRaise_ap, eChain_ap, eCBK_ap, srcV_ap, srcE_ap, srcZ_ap, List.findIdx?_cons, sm0, sm1, sm2, sm3, sm4, sm5, isi_tup_tuple, gLenU_tup, gT_ap, gEqU_int, gNeU_int, gEqU_str, rowOk, ha, hn]
    · by_cases hc : a = "call"
      · have hs2 : ¬ ("call" : Str) = "say" := fun z => hs z.symm
        cases hb : nmS b <;> simp [F_is_row, B_is_row, funF, sSeq_ap, sIf_ap, bBl_ap, bTr_ap, bAnd_ap, bOr_ap, bNot_ap, eAnd_ap, eOr_ap, eNot_ap, eIf_ap, eOp_ap, eUn_ap, settled_ap, settle, eVar_ap, eC_ap, sAsg_ap, gN_ap, gT_ap, gsNil_ap, gsCons_ap, cont, conts, Slot.data, blD, truD, Out.bind, Out.of, Out.toS, OutS.bind, OutS.of, assign, put, storable, freeze, freezes, frz1, aNil_ap, aCons_ap, eCB_ap, eTup_ap, eLst_ap, eDic_ap, sRet_ap, handOut, setOwn, slotD, ownL, ownD, intD, strD, sSetL_ap, gSetL_ap, sNext_ap, eCall_ap, callF, toArg, toArgs, onceEach, isSlot, back, backSlot, sPar_ap, sPar2_ap, eM1_ap, eMT_ap, eSl_ap, oNone_ap, oPart_ap, eBmL_ap, eBmD_ap, eDGet2_ap, sPut_ap, eSetd_ap, sRaise_ap, eChain_ap, eCBK_ap, srcV_ap, srcE_ap, srcZ_ap, List.findIdx?_cons, sm0, sm1, sm2, sm3, sm4, sm5, isi_tup_tuple, gLenU_tup, gT_ap, gEqU_int, gNeU_int, gEqU_str, gGtU_str, rowOk, hc, hs2, hn, hb]
      · simp [F_is_row, B_is_row, funF, sSeq_ap, sIf_ap, bBl_ap, bTr_ap, bAnd_ap, bOr_ap, bNot_ap, eAnd_ap, eOr_ap, eNot_ap, eIf_ap, eOp_ap, eUn_ap, settled_ap, settle, eVar_ap, eC_ap, sAsg_ap, gN_ap, gT_ap, gsNil_ap, gsCons_ap, cont, conts, Slot.data, blD, truD, Out.bind, Out.of, Out.toS, OutS.bind, OutS.of, assign, put, storable, freeze, freezes, frz1, aNil_ap, aCons_ap, eCB_ap, eTup_ap, eLst_ap, eDic_ap, sRet_ap, handOut, setOwn, slotD, ownL, ownD, intD, strD, sSetL_ap, gSetL_ap, sNext_ap, eCall_ap, callF, toArg, toArgs, onceEach, isSlot, back, backSlot, sPar_ap, sPar2_ap, eM1_ap, eMT_ap, eSl_ap, oNone_ap, oPart_ap, eBmL_ap, eBmD_ap, eDGet2_ap, sPut_ap, eSetd_ap, sRaise_ap, eChain_ap, eCBK_ap, srcV_ap, srcE_ap, srcZ_ap, List.findIdx?_cons, sm0, sm1, sm2, sm3, sm4, sm5, isi_tup_tuple, gLenU_tup, gT_ap, gEqU_int, gNeU_int, gEqU_str, rowOk, ha, hc]
  | a :: b :: c :: r, h, i1, i2 =>
    have j1 : ¬ ((a :: b :: c :: r).length : Int) = 1 := by simp; omega
    have j2 : ¬ ((a :: b :: c :: r).length : Int) = 2 := by simp; omega
    have hr : rowOk call (a :: b :: c :: r) = false := rfl
    generalize ((a :: b :: c :: r).length : Int) = m at i2 j1 j2
    rw [hr]
    generalize wD (a :: b :: c :: r) = W at i1 i2 ⊢
    simp [F_is_row, B_is_row, funF, sSeq_ap, sIf_ap, bBl_ap, bTr_ap, bAnd_ap, bOr_ap, bNot_ap, eAnd_ap, eOr_ap, eNot_ap, eIf_ap, eOp_ap, eUn_ap, settled_ap, settle, eVar_ap, eC_ap, sAsg_ap, gN_ap, gT_ap, gsNil_ap, gsCons_ap, cont, conts, Slot.data, blD, truD, Out.bind, Out.of, Out.toS, OutS.bind, OutS.of, assign, put, storable, freeze, freezes, frz1, aNil_ap, aCons_ap, eCB_ap, eTup_ap, eLst_ap, eDic_ap, sRet_ap, handOut, setOwn, slotD, ownL, ownD, intD, strD, sSetL_ap, gSetL_ap, sNext_ap, eCall_ap, callF, toArg, toArgs, onceEach, isSlot, back, backSlot, sPar_ap, sPar2_ap, eM1_ap, eMT_ap, eSl_ap, oNone_ap, oPart_ap, eBmL_ap, eBmD_ap, eDGet2_ap, sPut_ap, eSetd_ap, sRaise_ap, eChain_ap, eCBK_ap, srcV_ap, srcE_ap, srcZ_ap, List.findIdx?_cons, sm0, sm1, sm2, sm3, sm4, sm5, i1, i2, gEqU_int, gNeU_int, j1, j2]
def rD : Option (List Str) → D
  | some r => wD r
  | none => .non
theorem law_row_spec {call w : Str} (h : small w.length = true) : F__law_row [.imm (.str call), .imm (.str w)] = .ret (.dat (rD (wRow call w))) [.imm (.str call), .imm (.str w)] := by
  have c1 := gSl_str none (some 4) h
  have c2 := gSl_str (some 4) none h
  have c3 := gSl_str none (some 5) h
  have c4 := gSl_str (some 5) none h
  have n1 := law_name_spec (small_le h (cutS_len w (some 4) none))
  have n2 := law_name_spec (small_le h (cutS_len w (some 5) none))
  unfold wRow
  generalize cutS w none (some 4) = A at c1 ⊢
  generalize cutS w (some 4) none = B at c2 n1 ⊢
  generalize cutS w none (some 5) = C at c3 ⊢
  generalize cutS w (some 5) none = E at c4 n2 ⊢
  by_cases h1 : w = "next"
  · rw [if_pos h1]
    simp [F__law_row, B__law_row, funF, sSeq_ap, sIf_ap, bBl_ap, bTr_ap, bAnd_ap, bOr_ap, bNot_ap, eAnd_ap, eOr_ap, eNot_ap, eIf_ap, eOp_ap, eUn_ap, settled_ap, settle, eVar_ap, eC_ap, sAsg_ap, gN_ap, gT_ap, gsNil_ap, gsCons_ap, cont, conts, Slot.data, blD, truD, Out.bind, Out.of, Out.toS, OutS.bind, OutS.of, assign, put, storable, freeze, freezes, frz1, aNil_ap, aCons_ap, eCB_ap, eTup_ap, eLst_ap, eDic_ap, sRet_ap, handOut, setOwn, slotD, ownL, ownD, intD, strD, sSetL_ap, gSetL_ap, sNext_ap, eCall_ap, callF, toArg, toArgs, onceEach, isSlot, back, backSlot, sPar_ap, sPar2_ap, eM1_ap, eMT_ap, eSl_ap, oNone_ap, oPart_ap, eBmL_ap, eBmD_ap, eDGet2_ap, sPut_ap, eSetd_ap, sRaise_ap, eChain_ap, eCBK_ap, srcV_ap, srcE_ap, srcZ_ap, List.findIdx?_cons, sm0, sm1, sm2, sm3, sm4, sm5, gEqU_str, h1, rD, wD]
  · rw [if_neg h1]
    have key2 : A = "say " ∧ nmS B = true ∨ ¬ (A = "say " ∧ nmS B = true) := Classical.em _
    rcases key2 with h2 | h2
    · rw [if_pos h2]
      obtain ⟨rfl, h2⟩ := h2
      simp [F__law_row, B__law_row, funF, sSeq_ap, sIf_ap, bBl_ap, bTr_ap, bAnd_ap, bOr_ap, bNot_ap, eAnd_ap, eOr_ap, eNot_ap, eIf_ap, eOp_ap, eUn_ap, settled_ap, settle, eVar_ap, eC_ap, sAsg_ap, gN_ap, gT_ap, gsNil_ap, gsCons_ap, cont, conts, Slot.data, blD, truD, Out.bind, Out.of, Out.toS, OutS.bind, OutS.of, assign, put, storable, freeze, freezes, frz1, aNil_ap, aCons_ap, eCB_ap, eTup_ap, eLst_ap, eDic_ap, sRet_ap, handOut, setOwn, slotD, ownL, ownD, intD, strD, sSetL_ap, gSetL_ap, sNext_ap, eCall_ap, callF, toArg, toArgs, onceEach, isSlot, back, backSlot, sPar_ap, sPar2_ap, eM1_ap, eMT_ap, eSl_ap, oNone_ap, oPart_ap, eBmL_ap, eBmD_ap, eDGet2_ap, sPut_ap, eSetd_ap, sRaise_ap, eChain_ap, eCBK_ap, srcV_ap, srcE_ap, srcZ_ap, List.findIdx?_cons, sm0, sm1, sm2, sm3, sm4, sm5, gEqU_str, h1, c1, c2, n1, h2, rD, wD]
    · rw [if_neg h2]
      by_cases h3 : C = "call " ∧ nmS E = true ∧ ltS call E = true
      · rw [if_pos h3]
        obtain ⟨rfl, h3, h4⟩ := h3
        by_cases ha : A = "say "
        · have hb : nmS B = false := by
            cases hz : nmS B with
            | true => exact absurd ⟨ha, hz⟩ h2
            | false => rfl
          simp [F__law_row, B__law_row, funF, sSeq_ap, sIf_ap, bBl_ap, bTr_ap, bAnd_ap, bOr_ap, bNot_ap, eAnd_ap, eOr_ap, eNot_ap, eIf_ap, eOp_ap, eUn_ap, settled_ap, settle, eVar_ap, eC_ap, sAsg_ap, gN_ap, gT_ap, gsNil_ap, gsCons_ap, cont, conts, Slot.data, blD, truD, Out.bind, Out.of, Out.toS, OutS.bind, OutS.of, assign, put, storable, freeze, freezes, frz1, aNil_ap, aCons_ap, eCB_ap, eTup_ap, eLst_ap, eDic_ap, sRet_ap, handOut, setOwn, slotD, ownL, ownD, intD, strD, sSetL_ap, gSetL_ap, sNext_ap, eCall_ap, callF, toArg, toArgs, onceEach, isSlot, back, backSlot, sPar_ap, sPar2_ap, eM1_ap, eMT_ap, eSl_ap, oNone_ap, oPart_ap, eBmL_ap, eBmD_ap, eDGet2_ap, sPut_ap, eSetd_ap, sRaise_ap, eChain_ap, eCBK_ap, srcV_ap, srcE_ap, srcZ_ap, List.findIdx?_cons, sm0, sm1, sm2, sm3, sm4, sm5, gEqU_str, gGtU_str, h1, c1, c2, c3, c4, n1, n2, ha, hb, h3, h4, rD, wD]
        · simp [F__law_row, B__law_row, funF, sSeq_ap, sIf_ap, bBl_ap, bTr_ap, bAnd_ap, bOr_ap, bNot_ap, eAnd_ap, eOr_ap, eNot_ap, eIf_ap, eOp_ap, eUn_ap, settled_ap, settle, eVar_ap, eC_ap, sAsg_ap, gN_ap, gT_ap, gsNil_ap, gsCons_ap, cont, conts, Slot.data, blD, truD, Out.bind, Out.of, Out.toS, OutS.bind, OutS.of, assign, put, storable, freeze, freezes, frz1, aNil_ap, aCons_ap, eCB_ap, eTup_ap, eLst_ap, eDic_ap, sRet_ap, handOut, setOwn, slotD, ownL, ownD, intD, strD, sSetL_ap, gSetL_ap, sNext_ap, eCall_ap, callF, toArg, toArgs, onceEach, isSlot, back, backSlot, sPar_ap, sPar2_ap, eM1_ap, eMT_ap, eSl_ap, oNone_ap, oPart_ap, eBmL_ap, eBmD_ap, eDGet2_ap, sPut_ap, eSetd_ap, sRaise_ap, eChain_ap, eCBK_ap, srcV_ap, srcE_ap, srcZ_ap, List.findIdx?_cons, sm0, sm1, sm2, sm3, sm4, sm5, gEqU_str, gGtU_str, h1, c1, c3, c4, n2, ha, h3, h4, rD, wD]
      · rw [if_neg h3]
        have fin : ∀ P : Bool, (A = "say " → nmS B = P) → True := fun _ _ => trivial
        by_cases ha : A = "say "
        · have hb : nmS B = false := by
            cases hz : nmS B with
            | true => exact absurd ⟨ha, hz⟩ h2
            | false => rfl
          by_cases hc : C = "call "
          · by_cases he : nmS E = true
            · have hl : ltS call E = false := by
                cases hz : ltS call E with
                | true => exact absurd ⟨hc, he, hz⟩ h3
                | false => rfl
              simp [F__law_row, B__law_row, funF, sSeq_ap, sIf_ap, bBl_ap, bTr_ap, bAnd_ap, bOr_ap, bNot_ap, eAnd_ap, eOr_ap, eNot_ap, eIf_ap, eOp_ap, eUn_ap, settled_ap, settle, eVar_ap, eC_ap, sAsg_ap, gN_ap, gT_ap, gsNil_ap, gsCons_ap, cont, conts, Slot.data, blD, truD, Out.bind, Out.of, Out.toS, OutS.bind, OutS.of, assign, put, storable, freeze, freezes, frz1, aNil_ap, aCons_ap, eCB_ap, eTup_ap, eLst_ap, eDic_ap, sRet_ap, handOut, setOwn, slotD, ownL, ownD, intD, strD, sSetL_ap, gSetL_ap, sNext_ap, eCall_ap, callF, toArg, toArgs, onceEach, isSlot, back, backSlot, sPar_ap, sPar2_ap, eM1_ap, eMT_ap, eSl_ap, oNone_ap, oPart_ap, eBmL_ap, eBmD_ap, eDGet2_ap, sPut_ap, eSetd_ap, sRaise_ap, eChain_ap, eCBK_ap, srcV_ap, srcE_ap, srcZ_ap, List.findIdx?_cons, sm0, sm1, sm2, sm3, sm4, sm5, gEqU_str, gGtU_str, h1, c1, c2, c3, c4, n1, n2, ha, hb, hc, he, hl, rD]
            · simp [F__law_row, B__law_row, funF, sSeq_ap, sIf_ap, bBl_ap, bTr_ap, bAnd_ap, bOr_ap, bNot_ap, eAnd_ap, eOr_ap, eNot_ap, eIf_ap, eOp_ap, eUn_ap, settled_ap, settle, eVar_ap, eC_ap, sAsg_ap, gN_ap, gT_ap, gsNil_ap, gsCons_ap, cont, conts, Slot.data, blD, truD, Out.bind, Out.of, Out.toS, OutS.bind, OutS.of, assign, put, storable, freeze, freezes, frz1, aNil_ap, aCons_ap, eCB_ap, eTup_ap, eLst_ap, eDic_ap, sRet_ap, handOut, setOwn, slotD, ownL, ownD, intD, strD, sSetL_ap, gSetL_ap, sNext_ap, eCall_ap, callF, toArg, toArgs, onceEach, isSlot, back, backSlot, sPar_ap, sPar2_ap, eM1_ap, eMT_ap, eSl_ap, oNone_ap, oPart_ap, eBmL_ap, eBmD_ap, eDGet2_ap, sPut_ap, eSetd_ap, sRaise_ap, eChain_ap, eCBK_ap, srcV_ap, srcE_ap, srcZ_ap, List.findIdx?_cons, sm0, sm1, sm2, sm3, sm4, sm5, gEqU_str, gGtU_str, h1, c1, c2, c3, c4, n1, n2, ha, hb, hc, he, rD]
          · simp [F__law_row, B__law_row, funF, sSeq_ap, sIf_ap, bBl_ap, bTr_ap, bAnd_ap, bOr_ap, bNot_ap, eAnd_ap, eOr_ap, eNot_ap, eIf_ap, eOp_ap, eUn_ap, settled_ap, settle, eVar_ap, eC_ap, sAsg_ap, gN_ap, gT_ap, gsNil_ap, gsCons_ap, cont, conts, Slot.data, blD, truD, Out.bind, Out.of, Out.toS, OutS.bind, OutS.of, assign, put, storable, freeze, freezes, frz1, aNil_ap, aCons_ap, eCB_ap, eTup_ap, eLst_ap, eDic_ap, sRet_ap, handOut, setOwn, slotD, ownL, ownD, intD, strD, sSetL_ap, gSetL_ap, sNext_ap, eCall_ap, callF, toArg, toArgs, onceEach, isSlot, back, backSlot, sPar_ap, sPar2_ap, eM1_ap, eMT_ap, eSl_ap, oNone_ap, oPart_ap, eBmL_ap, eBmD_ap, eDGet2_ap, sPut_ap, eSetd_ap, sRaise_ap, eChain_ap, eCBK_ap, srcV_ap, srcE_ap, srcZ_ap, List.findIdx?_cons, sm0, sm1, sm2, sm3, sm4, sm5, gEqU_str, gGtU_str, h1, c1, c2, c3, c4, n1, n2, ha, hb, hc, rD]
        · by_cases hc : C = "call "
          · by_cases he : nmS E = true
            · have hl : ltS call E = false := by
                cases hz : ltS call E with
                | true => exact absurd ⟨hc, he, hz⟩ h3
                | false => rfl
              simp [F__law_row, B__law_row, funF, sSeq_ap, sIf_ap, bBl_ap, bTr_ap, bAnd_ap, bOr_ap, bNot_ap, eAnd_ap, eOr_ap, eNot_ap, eIf_ap, eOp_ap, eUn_ap, settled_ap, settle, eVar_ap, eC_ap, sAsg_ap, gN_ap, gT_ap, gsNil_ap, gsCons_ap, cont, conts, Slot.data, blD, truD, Out.bind, Out.of, Out.toS, OutS.bind, OutS.of, assign, put, storable, freeze, freezes, frz1, aNil_ap, aCons_ap, eCB_ap, eTup_ap, eLst_ap, eDic_ap, sRet_ap, handOut, setOwn, slotD, ownL, ownD, intD, strD, sSetL_ap, gSetL_ap, sNext_ap, eCall_ap, callF, toArg, toArgs, onceEach, isSlot, back, backSlot, sPar_ap, sPar2_ap, eM1_ap, eMT_ap, eSl_ap, oNone_ap, oPart_ap, eBmL_ap, eBmD_ap, eDGet2_ap, sPut_ap, eSetd_ap, sRaise_ap, eChain_ap, eCBK_ap, srcV_ap, srcE_ap, srcZ_ap, List.findIdx?_cons, sm0, sm1, sm2, sm3, sm4, sm5, gEqU_str, gGtU_str, h1, c1, c3, c4, n2, ha, hc, he, hl, rD]
            · simp [F__law_row, B__law_row, funF, sSeq_ap, sIf_ap, bBl_ap, bTr_ap, bAnd_ap, bOr_ap, bNot_ap, eAnd_ap, eOr_ap, eNot_ap, eIf_ap, eOp_ap, eUn_ap, settled_ap, settle, eVar_ap, eC_ap, sAsg_ap, gN_ap, gT_ap, gsNil_ap, gsCons_ap, cont, conts, Slot.data, blD, truD, Out.bind, Out.of, Out.toS, OutS.bind, OutS.of, assign, put, storable, freeze, freezes, frz1, aNil_ap, aCons_ap, eCB_ap, eTup_ap, eLst_ap, eDic_ap, sRet_ap, handOut, setOwn, slotD, ownL, ownD, intD, strD, sSetL_ap, gSetL_ap, sNext_ap, eCall_ap, callF, toArg, toArgs, onceEach, isSlot, back, backSlot, sPar_ap, sPar2_ap, eM1_ap, eMT_ap, eSl_ap, oNone_ap, oPart_ap, eBmL_ap, eBmD_ap, eDGet2_ap, sPut_ap, eSetd_ap, sRaise_ap, eChain_ap, eCBK_ap, srcV_ap, srcE_ap, srcZ_ap, List.findIdx?_cons, sm0, sm1, sm2, sm3, sm4, sm5, gEqU_str, gGtU_str, h1, c1, c3, c4, n2, ha, hc, he, rD]
          · simp [F__law_row, B__law_row, funF, sSeq_ap, sIf_ap, bBl_ap, bTr_ap, bAnd_ap, bOr_ap, bNot_ap, eAnd_ap, eOr_ap, eNot_ap, eIf_ap, eOp_ap, eUn_ap, settled_ap, settle, eVar_ap, eC_ap, sAsg_ap, gN_ap, gT_ap, gsNil_ap, gsCons_ap, cont, conts, Slot.data, blD, truD, Out.bind, Out.of, Out.toS, OutS.bind, OutS.of, assign, put, storable, freeze, freezes, frz1, aNil_ap, aCons_ap, eCB_ap, eTup_ap, eLst_ap, eDic_ap, sRet_ap, handOut, setOwn, slotD, ownL, ownD, intD, strD, sSetL_ap, gSetL_ap, sNext_ap, eCall_ap, callF, toArg, toArgs, onceEach, isSlot, back, backSlot, sPar_ap, sPar2_ap, eM1_ap, eMT_ap, eSl_ap, oNone_ap, oPart_ap, eBmL_ap, eBmD_ap, eDGet2_ap, sPut_ap, eSetd_ap, sRaise_ap, eChain_ap, eCBK_ap, srcV_ap, srcE_ap, srcZ_ap, List.findIdx?_cons, sm0, sm1, sm2, sm3, sm4, sm5, gEqU_str, gGtU_str, h1, c1, c3, ha, hc, rD]
end DL.K46

namespace DL.K46
open PySem L2 PySem.Spec PyProof.Rows
def pts (x : Str) : List Str := Txt.split x comma2
def spl (p : Str) : List Str := Txt.split p blank
/-- what reading a body gives -/
def rb (call x : Str) : Except Int (List (List Str)) :=
  if x = "-" then .ok [] else match ((pts x).take 6).findIdx? (fun p => (wRow call p).isNone) with
    | some k => .error (k : Nat)
    | none => if 6 < (pts x).length then .error 6 else .ok ((pts x).map spl)
theorem len_blank : (blank.length == 0) = false := rfl
theorem len_comma2 : (comma2.length == 0) = false := rfl
theorem pts_len {x : Str} (hx : x.length ≤ 100000) : (pts x).length ≤ 100002 := by
  have := parts_len x comma2
  unfold pts
  omega
theorem pts_part {x p : Str} (hx : x.length ≤ 100000) (h : p ∈ pts x) : p.length ≤ 100000 := Nat.le_trans (part_len h) hx
theorem read_X1 {call x : Str} (hx : x.length ≤ 100000) : X1_read_body [.imm (.str call), .imm (.str x), .no, .no, .no, .no] = .val (.new (.lst ((pts x).map fun p => wD (spl p)))) [.imm (.str call), .imm (.str x), .no, .no, .no, .no] := by
  unfold X1_read_body
  have hs := gSplit_str (x := x) (y := comma2) len_comma2 (by unfold sizeLine; omega)
  rw [show Txt.split x comma2 = pts x from rfl] at hs
  have hl := pts_len hx
  refine eLc_map (s := datS ((pts x).map .str)) (xs := pts x) (inj := D.str) (e0 := [.imm (.str call), .imm (.str x), .no, .no, .no, .no]) ?_ rfl rfl rfl (by simp) (fun i p hp => by simp [hp]) (fun p hp => ?_) (by unfold sizeLine; omega)
  · rw [comma2_eq]
    generalize (pts x).map D.str = ds at hs ⊢
    simp [funF, sSeq_ap, sIf_ap, bBl_ap, bTr_ap, bAnd_ap, bOr_ap, bNot_ap, eAnd_ap, eOr_ap, eNot_ap, eIf_ap, eOp_ap, eUn_ap, settled_ap, settle, eVar_ap, eC_ap, sAsg_ap, gN_ap, gT_ap, gsNil_ap, gsCons_ap, cont, conts, Slot.data, blD, truD, Out.bind, Out.of, Out.toS, OutS.bind, OutS.of, assign, put, storable, freeze, freezes, frz1, aNil_ap, aCons_ap, eCB_ap, eTup_ap, eLst_ap, eDic_ap, sRet_ap, handOut, setOwn, slotD, ownL, ownD, intD, strD, sSetL_ap, gSetL_ap, sNext_ap, eCall_ap, callF, toArg, toArgs, onceEach, isSlot, back, backSlot, sPar_ap, sPar2_ap, eM1_ap, eMT_ap, eSl_ap, oNone_ap, oPart_ap, eBmL_ap, eBmD_ap, eDGet2_ap, sPut_ap, eSetd_ap, sRaise_ap, eChain_ap, eCBK_ap, srcV_ap, srcE_ap, srcZ_ap, List.findIdx?_cons, sm0, sm1, sm2, sm3, sm4, sm5, hs, srcOf]
  · have hp2 := pts_part hx hp
    have hs2 := gSplit_str (x := p) (y := blank) len_blank (by unfold sizeLine; omega)
    have ht : gTuple [.lst ((Txt.split p blank).map .str)] = some (.dat (wD (spl p))) := rfl
    rw [blank_eq]
    generalize (Txt.split p blank).map D.str = ds at hs2 ht
    generalize wD (spl p) = W at ht ⊢
    simp [oneC, funF, sSeq_ap, sIf_ap, bBl_ap, bTr_ap, bAnd_ap, bOr_ap, bNot_ap, eAnd_ap, eOr_ap, eNot_ap, eIf_ap, eOp_ap, eUn_ap, settled_ap, settle, eVar_ap, eC_ap, sAsg_ap, gN_ap, gT_ap, gsNil_ap, gsCons_ap, cont, conts, Slot.data, blD, truD, Out.bind, Out.of, Out.toS, OutS.bind, OutS.of, assign, put, storable, freeze, freezes, frz1, aNil_ap, aCons_ap, eCB_ap, eTup_ap, eLst_ap, eDic_ap, sRet_ap, handOut, setOwn, slotD, ownL, ownD, intD, strD, sSetL_ap, gSetL_ap, sNext_ap, eCall_ap, callF, toArg, toArgs, onceEach, isSlot, back, backSlot, sPar_ap, sPar2_ap, eM1_ap, eMT_ap, eSl_ap, oNone_ap, oPart_ap, eBmL_ap, eBmD_ap, eDGet2_ap, sPut_ap, eSetd_ap, sRaise_ap, eChain_ap, eCBK_ap, srcV_ap, srcE_ap, srcZ_ap, List.findIdx?_cons, sm0, sm1, sm2, sm3, sm4, sm5, wipable, wipeE, hs2, ht]
theorem read_X2 {call x : Str} (hx : x.length ≤ 100000) : (((pts x).take 6).findIdx? (fun p => (wRow call p).isNone) = none ∧ ∃ z3 z4, X2_read_body [.imm (.str call), .imm (.str x), .own (.lst ((pts x).map fun p => wD (spl p))), .no, .no, .no] = .next [.imm (.str call), .imm (.str x), .own (.lst ((pts x).map fun p => wD (spl p))), z3, z4, .no]) ∨
    ∃ (k : Nat) (z2 z3 z4 z5 : Slot), ((pts x).take 6).findIdx? (fun p => (wRow call p).isNone) = some k ∧ X2_read_body [.imm (.str call), .imm (.str x), .own (.lst ((pts x).map fun p => wD (spl p))), .no, .no, .no] = .exc "NoText" (some [("at", .int (k : Nat))]) [.imm (.str call), .imm (.str x), z2, z3, z4, z5] := by
  generalize hfs : (pts x).take 6 = fs
  have hmem : ∀ p ∈ fs, p ∈ pts x := fun p hp => List.mem_of_mem_take (by rw [hfs]; exact hp)
  have hcut : gSl (.lst ((pts x).map fun p => wD (spl p))) none (some 6) = some (.new (.lst (fs.map fun p => wD (spl p)))) := by
    have := cutD_to ((pts x).map fun p => wD (spl p)) 6
    rw [show ((6 : Nat) : Int) = 6 from rfl] at this
    show some (EV.new (.lst (cutD _ none (some 6)))) = _
    rw [this, ← hfs, List.map_take]
  have key := sFor_invG (s := enS (datS (fs.map fun p => wD (spl p)))) (g := gT 2 (gsCons (gN 3) (gsCons (gN 4) gsNil))) (F := Y2_read_body) (fs := srcE (aCons (settled (eSl (eVar 2) oNone (oPart (eC (.int 6))))) aNil))
    (env := [.imm (.str call), .imm (.str x), .own (.lst ((pts x).map fun p => wD (spl p))), .no, .no, .no]) (e0 := [.imm (.str call), .imm (.str x), .own (.lst ((pts x).map fun p => wD (spl p))), .no, .no, .no])
    (I := fun i env => ∃ z3 z4, Jk' z3 ∧ Jk' z4 ∧ (∀ j, j < i → ∀ p, fs[j]? = some p → (wRow call p).isNone = false) ∧ env = [.imm (.str call), .imm (.str x), .own (.lst ((pts x).map fun p => wD (spl p))), z3, z4, .no]) (B := fun _ => False)
    (Z := fun o => ∃ (k : Nat) (z2 z3 z4 z5 : Slot), fs.findIdx? (fun p => (wRow call p).isNone) = some k ∧ o = .exc "NoText" (some [("at", .int (k : Nat))]) [.imm (.str call), .imm (.str x), z2, z3, z4, z5]) ?_ ⟨.no, .no, .inl rfl, .inl rfl, (fun j h => by omega), rfl⟩ (fun _ _ => rfl) ?_
  · rcases key with ⟨env', e, ⟨z3, z4, _, _, h, rfl⟩ | h⟩ | ⟨o, e, _, k, z2, z3, z4, z5, h, rfl⟩
    · change X2_read_body _ = _ at e
      refine .inl ⟨?_, z3, z4, e⟩
      rw [List.findIdx?_eq_none_iff]
      intro p hp
      obtain ⟨j, hj⟩ := List.getElem?_of_mem hp
      have hjl := (List.getElem?_eq_some_iff.mp hj).1
      exact h j (by simpa using hjl) p hj
    · exact h.elim
    · change X2_read_body _ = _ at e
      exact .inr ⟨k, z2, z3, z4, z5, h, e⟩
  · generalize (pts x).map (fun p => wD (spl p)) = ds at hcut ⊢
    generalize fs.map (fun p => wD (spl p)) = es at hcut ⊢
    simp [funF, sSeq_ap, sIf_ap, bBl_ap, bTr_ap, bAnd_ap, bOr_ap, bNot_ap, eAnd_ap, eOr_ap, eNot_ap, eIf_ap, eOp_ap, eUn_ap, settled_ap, settle, eVar_ap, eC_ap, sAsg_ap, gN_ap, gT_ap, gsNil_ap, gsCons_ap, cont, conts, Slot.data, blD, truD, Out.bind, Out.of, Out.toS, OutS.bind, OutS.of, assign, put, storable, freeze, freezes, frz1, aNil_ap, aCons_ap, eCB_ap, eTup_ap, eLst_ap, eDic_ap, sRet_ap, handOut, setOwn, slotD, ownL, ownD, intD, strD, sSetL_ap, gSetL_ap, sNext_ap, eCall_ap, callF, toArg, toArgs, onceEach, isSlot, back, backSlot, sPar_ap, sPar2_ap, eM1_ap, eMT_ap, eSl_ap, oNone_ap, oPart_ap, eBmL_ap, eBmD_ap, eDGet2_ap, sPut_ap, eSetd_ap, sRaise_ap, eChain_ap, eCBK_ap, srcV_ap, srcE_ap, srcZ_ap, List.findIdx?_cons, sm0, sm1, sm2, sm3, sm4, sm5, hcut, srcOf]
  · rintro i env hi ⟨z3, z4, j3, j4, h, rfl⟩
    have hi : i < fs.length := by simpa using hi
    have e1 := List.getElem?_eq_getElem hi
    have hm := List.getElem_mem hi
    have hbef : ∀ j (hj : j < fs.length), j < i → (wRow call fs[j]).isNone = false := fun j hj hji => h j hji _ (List.getElem?_eq_getElem hj)
    have hfi : ∀ p, fs[i] = p → (wRow call p).isNone = true → fs.findIdx? (fun p => (wRow call p).isNone) = some i := fun p hp hn => by
      rw [List.findIdx?_eq_some_iff_getElem]
      refine ⟨hi, by rw [hp]; exact hn, fun j hj => ?_⟩
      rw [hbef j (by omega) hj]
      simp
    generalize fs[i] = p at e1 hm hfi
    refine ⟨.prs [.int (i : Nat), wD (spl p)], by simp [e1], ?_⟩
    have hp2 := pts_part hx (hmem p hm)
    have hrow := is_row_spec (call := call) (ws := spl p) fun w hw => small_of (by have := part_len (x := p) (y := blank) hw; omega)
    have hrs := row_split call p
    rw [show Txt.split p blank = spl p from rfl] at hrs
    rw [hrs.1] at hrow
    have hag : Str.ofString "NoText" = ("NoText" : Str) := rfl
    generalize (pts x).map (fun p => wD (spl p)) = ds
    generalize wD (spl p) = W at hrow ⊢
    cases hn : wRow call p with
    | some r =>
      rw [hn] at hrow
      have hrow : F_is_row [.imm (.str call), .imm W] = .ret (.dat (.bl true)) [.imm (.str call), .imm W] := hrow
      refine .inl ⟨[.imm (.str call), .imm (.str x), .own (.lst ds), .imm (.int (i : Nat)), .imm W, .no], .inl ?_, _, _, Jk'.im _, Jk'.im _, fun j hj q hq => ?_, rfl⟩
      · rcases j3 with rfl | ⟨q3, rfl⟩ <;> rcases j4 with rfl | ⟨q4, rfl⟩ <;> simp [Y2_read_body, funF, sSeq_ap, sIf_ap, bBl_ap, bTr_ap, bAnd_ap, bOr_ap, bNot_ap, eAnd_ap, eOr_ap, eNot_ap, eIf_ap, eOp_ap, eUn_ap, settled_ap, settle, eVar_ap, eC_ap, sAsg_ap, gN_ap, gT_ap, gsNil_ap, gsCons_ap, cont, conts, Slot.data, blD, truD, Out.bind, Out.of, Out.toS, OutS.bind, OutS.of, assign, put, storable, freeze, freezes, frz1, aNil_ap, aCons_ap, eCB_ap, eTup_ap, eLst_ap, eDic_ap, sRet_ap, handOut, setOwn, slotD, ownL, ownD, intD, strD, sSetL_ap, gSetL_ap, sNext_ap, eCall_ap, callF, toArg, toArgs, onceEach, isSlot, back, backSlot, sPar_ap, sPar2_ap, eM1_ap, eMT_ap, eSl_ap, oNone_ap, oPart_ap, eBmL_ap, eBmD_ap, eDGet2_ap, sPut_ap, eSetd_ap, sRaise_ap, eChain_ap, eCBK_ap, srcV_ap, srcE_ap, srcZ_ap, List.findIdx?_cons, sm0, sm1, sm2, sm3, sm4, sm5, gT_ap, hrow]
      · by_cases e : j = i
        · subst e
          rw [e1] at hq
          cases hq
          rw [hn]
          rfl
        · exact h j (by omega) q hq
    | none =>
      rw [hn] at hrow
      have hrow : F_is_row [.imm (.str call), .imm W] = .ret (.dat (.bl false)) [.imm (.str call), .imm W] := hrow
      refine .inr (.inr ⟨_, rfl, ?_, i, .own (.lst ds), .imm (.int (i : Nat)), .imm W, .no, hfi p rfl (by rw [hn]; rfl), ?_⟩)
      · rcases j3 with rfl | ⟨q3, rfl⟩ <;> rcases j4 with rfl | ⟨q4, rfl⟩ <;> simp [Y2_read_body, funF, sSeq_ap, sIf_ap, bBl_ap, bTr_ap, bAnd_ap, bOr_ap, bNot_ap, eAnd_ap, eOr_ap, eNot_ap, eIf_ap, eOp_ap, eUn_ap, settled_ap, settle, eVar_ap, eC_ap, sAsg_ap, gN_ap, gT_ap, gsNil_ap, gsCons_ap, cont, conts, Slot.data, blD, truD, Out.bind, Out.of, Out.toS, OutS.bind, OutS.of, assign, put, storable, freeze, freezes, frz1, aNil_ap, aCons_ap, eCB_ap, eTup_ap, eLst_ap, eDic_ap, sRet_ap, handOut, setOwn, slotD, ownL, ownD, intD, strD, sSetL_ap, gSetL_ap, sNext_ap, eCall_ap, callF, toArg, toArgs, onceEach, isSlot, back, backSlot, sPar_ap, sPar2_ap, eM1_ap, eMT_ap, eSl_ap, oNone_ap, oPart_ap, eBmL_ap, eBmD_ap, eDGet2_ap, sPut_ap, eSetd_ap, sRaise_ap, eChain_ap, eCBK_ap, srcV_ap, srcE_ap, srcZ_ap, List.findIdx?_cons, sm0, sm1, sm2, sm3, sm4, sm5, gT_ap, hrow, isEnd]
      · rcases j3 with rfl | ⟨q3, rfl⟩ <;> rcases j4 with rfl | ⟨q4, rfl⟩ <;> simp [Y2_read_body, funF, sSeq_ap, sIf_ap, bBl_ap, bTr_ap, bAnd_ap, bOr_ap, bNot_ap, eAnd_ap, eOr_ap, eNot_ap, eIf_ap, eOp_ap, eUn_ap, settled_ap, settle, eVar_ap, eC_ap, sAsg_ap, gN_ap, gT_ap, gsNil_ap, gsCons_ap, cont, conts, Slot.data, blD, truD, Out.bind, Out.of, Out.toS, OutS.bind, OutS.of, assign, put, storable, freeze, freezes, frz1, aNil_ap, aCons_ap, eCB_ap, eTup_ap, eLst_ap, eDic_ap, sRet_ap, handOut, setOwn, slotD, ownL, ownD, intD, strD, sSetL_ap, gSetL_ap, sNext_ap, eCall_ap, callF, toArg, toArgs, onceEach, isSlot, back, backSlot, sPar_ap, sPar2_ap, eM1_ap, eMT_ap, eSl_ap, oNone_ap, oPart_ap, eBmL_ap, eBmD_ap, eDGet2_ap, sPut_ap, eSetd_ap, sRaise_ap, eChain_ap, eCBK_ap, srcV_ap, srcE_ap, srcZ_ap, List.findIdx?_cons, sm0, sm1, sm2, sm3, sm4, sm5, gT_ap, hrow]
def rbO (call x : Str) : OutF := match rb call x with
  | .ok rs => .ret (.dat (.tup (rs.map wD))) [.imm (.str call), .imm (.str x)]
  | .error k => .exc "NoText" (some [("at", .int k)]) [.imm (.str call), .imm (.str x)]
theorem read_spec {call x : Str} (hx : x.length ≤ 100000) : F_read_body [.imm (.str call), .imm (.str x)] = rbO call x := by
  unfold rbO rb
  by_cases hd : x = "-"
  · rw [if_pos hd]
    simp [F_read_body, B_read_body, funF, sSeq_ap, sIf_ap, bBl_ap, bTr_ap, bAnd_ap, bOr_ap, bNot_ap, eAnd_ap, eOr_ap, eNot_ap, eIf_ap, eOp_ap, eUn_ap, settled_ap, settle, eVar_ap, eC_ap, sAsg_ap, gN_ap, gT_ap, gsNil_ap, gsCons_ap, cont, conts, Slot.data, blD, truD, Out.bind, Out.of, Out.toS, OutS.bind, OutS.of, assign, put, storable, freeze, freezes, frz1, aNil_ap, aCons_ap, eCB_ap, eTup_ap, eLst_ap, eDic_ap, sRet_ap, handOut, setOwn, slotD, ownL, ownD, intD, strD, sSetL_ap, gSetL_ap, sNext_ap, eCall_ap, callF, toArg, toArgs, onceEach, isSlot, back, backSlot, sPar_ap, sPar2_ap, eM1_ap, eMT_ap, eSl_ap, oNone_ap, oPart_ap, eBmL_ap, eBmD_ap, eDGet2_ap, sPut_ap, eSetd_ap, sRaise_ap, eChain_ap, eCBK_ap, srcV_ap, srcE_ap, srcZ_ap, List.findIdx?_cons, sm0, sm1, sm2, sm3, sm4, sm5, isi_non_str, isi_non_tuple, isi_non_int, isi_non_bool, isi_non_list, isi_bl_str, isi_bl_tuple, isi_bl_int, isi_bl_bool, isi_bl_list, isi_int_str, isi_int_tuple, isi_int_int, isi_int_bool, isi_int_list, isi_str_str, isi_str_tuple, isi_str_int, isi_str_bool, isi_str_list, isi_lst_str, isi_lst_tuple, isi_lst_int, isi_lst_bool, isi_lst_list, isi_tup_str, isi_tup_tuple, isi_tup_int, isi_tup_bool, isi_tup_list, gEqU_str, hd]
  · rw [if_neg hd]
    have e1 := read_X1 (call := call) hx
    have hl := gLenU_lst ((pts x).map fun p => wD (spl p))
    rw [List.length_map] at hl
    have ht : gTuple [.lst ((pts x).map fun p => wD (spl p))] = some (.dat (.tup ((pts x).map fun p => wD (spl p)))) := rfl
    rcases read_X2 (call := call) hx with ⟨h, z3, z4, e2⟩ | ⟨k, z2, z3, z4, z5, h, e2⟩
    · rw [h]
      have hmm : ((pts x).map spl).map wD = (pts x).map fun p => wD (spl p) := by rw [List.map_map]; rfl
      by_cases hc : 6 < (pts x).length
      · simp only [if_pos hc]
        have hc : (6 : Int) < (pts x).length := by omega
        generalize (pts x).length = n at hl hc
        generalize (pts x).map (fun p => wD (spl p)) = ds at *
        simp [F_read_body, B_read_body, funF, sSeq_ap, sIf_ap, bBl_ap, bTr_ap, bAnd_ap, bOr_ap, bNot_ap, eAnd_ap, eOr_ap, eNot_ap, eIf_ap, eOp_ap, eUn_ap, settled_ap, settle, eVar_ap, eC_ap, sAsg_ap, gN_ap, gT_ap, gsNil_ap, gsCons_ap, cont, conts, Slot.data, blD, truD, Out.bind, Out.of, Out.toS, OutS.bind, OutS.of, assign, put, storable, freeze, freezes, frz1, aNil_ap, aCons_ap, eCB_ap, eTup_ap, eLst_ap, eDic_ap, sRet_ap, handOut, setOwn, slotD, ownL, ownD, intD, strD, sSetL_ap, gSetL_ap, sNext_ap, eCall_ap, callF, toArg, toArgs, onceEach, isSlot, back, backSlot, sPar_ap, sPar2_ap, eM1_ap, eMT_ap, eSl_ap, oNone_ap, oPart_ap, eBmL_ap, eBmD_ap, eDGet2_ap, sPut_ap, eSetd_ap, sRaise_ap, eChain_ap, eCBK_ap, srcV_ap, srcE_ap, srcZ_ap, List.findIdx?_cons, sm0, sm1, sm2, sm3, sm4, sm5, isi_non_str, isi_non_tuple, isi_non_int, isi_non_bool, isi_non_list, isi_bl_str, isi_bl_tuple, isi_bl_int, isi_bl_bool, isi_bl_list, isi_int_str, isi_int_tuple, isi_int_int, isi_int_bool, isi_int_list, isi_str_str, isi_str_tuple, isi_str_int, isi_str_bool, isi_str_list, isi_lst_str, isi_lst_tuple, isi_lst_int, isi_lst_bool, isi_lst_list, isi_tup_str, isi_tup_tuple, isi_tup_int, isi_tup_bool, isi_tup_list, gEqU_str, hd, e1, e2, hl, gGtU_int, hc]
      · simp only [if_neg hc]
        rw [hmm]
        have hc : ¬ (6 : Int) < (pts x).length := by omega
        generalize (pts x).length = n at hl hc
        generalize (pts x).map (fun p => wD (spl p)) = ds at *
        simp [F_read_body, B_read_body, funF, sSeq_ap, sIf_ap, bBl_ap, bTr_ap, bAnd_ap, bOr_ap, bNot_ap, eAnd_ap, eOr_ap, eNot_ap, eIf_ap, eOp_ap, eUn_ap, settled_ap, settle, eVar_ap, eC_ap, sAsg_ap, gN_ap, gT_ap, gsNil_ap, gsCons_ap, cont, conts, Slot.data, blD, truD, Out.bind, Out.of, Out.toS, OutS.bind, OutS.of, assign, put, storable, freeze, freezes, frz1, aNil_ap, aCons_ap, eCB_ap, eTup_ap, eLst_ap, eDic_ap, sRet_ap, handOut, setOwn, slotD, ownL, ownD, intD, strD, sSetL_ap, gSetL_ap, sNext_ap, eCall_ap, callF, toArg, toArgs, onceEach, isSlot, back, backSlot, sPar_ap, sPar2_ap, eM1_ap, eMT_ap, eSl_ap, oNone_ap, oPart_ap, eBmL_ap, eBmD_ap, eDGet2_ap, sPut_ap, eSetd_ap, sRaise_ap, eChain_ap, eCBK_ap, srcV_ap, srcE_ap, srcZ_ap, List.findIdx?_cons, sm0, sm1, sm2, sm3, sm4, sm5, isi_non_str, isi_non_tuple, isi_non_int, isi_non_bool, isi_non_list, isi_bl_str, isi_bl_tuple, isi_bl_int, isi_bl_bool, isi_bl_list, isi_int_str, isi_int_tuple, isi_int_int, isi_int_bool, isi_int_list, isi_str_str, isi_str_tuple, isi_str_int, isi_str_bool, isi_str_list, isi_lst_str, isi_lst_tuple, isi_lst_int, isi_lst_bool, isi_lst_list, isi_tup_str, isi_tup_tuple, isi_tup_int, isi_tup_bool, isi_tup_list, gEqU_str, hd, e1, e2, hl, gGtU_int, hc, ht]
    · rw [h]
      generalize (pts x).map (fun p => wD (spl p)) = ds at *
      simp [F_read_body, B_read_body, funF, sSeq_ap, sIf_ap, bBl_ap, bTr_ap, bAnd_ap, bOr_ap, bNot_ap, eAnd_ap, eOr_ap, eNot_ap, eIf_ap, eOp_ap, eUn_ap, settled_ap, settle, eVar_ap, eC_ap, sAsg_ap, gN_ap, gT_ap, gsNil_ap, gsCons_ap, cont, conts, Slot.data, blD, truD, Out.bind, Out.of, Out.toS, OutS.bind, OutS.of, assign, put, storable, freeze, freezes, frz1, aNil_ap, aCons_ap, eCB_ap, eTup_ap, eLst_ap, eDic_ap, sRet_ap, handOut, setOwn, slotD, ownL, ownD, intD, strD, sSetL_ap, gSetL_ap, sNext_ap, eCall_ap, callF, toArg, toArgs, onceEach, isSlot, back, backSlot, sPar_ap, sPar2_ap, eM1_ap, eMT_ap, eSl_ap, oNone_ap, oPart_ap, eBmL_ap, eBmD_ap, eDGet2_ap, sPut_ap, eSetd_ap, sRaise_ap, eChain_ap, eCBK_ap, srcV_ap, srcE_ap, srcZ_ap, List.findIdx?_cons, sm0, sm1, sm2, sm3, sm4, sm5, isi_non_str, isi_non_tuple, isi_non_int, isi_non_bool, isi_non_list, isi_bl_str, isi_bl_tuple, isi_bl_int, isi_bl_bool, isi_bl_list, isi_int_str, isi_int_tuple, isi_int_int, isi_int_bool, isi_int_list, isi_str_str, isi_str_tuple, isi_str_int, isi_str_bool, isi_str_list, isi_lst_str, isi_lst_tuple, isi_lst_int, isi_lst_bool, isi_lst_list, isi_tup_str, isi_tup_tuple, isi_tup_int, isi_tup_bool, isi_tup_list, gEqU_str, hd, e1, e2]
/-- what is no text -/
theorem read_not {call : Str} {d : D} (h : gIsi [d, .any (.ty "str")] = some (.dat (.bl false))) : F_read_body [.imm (.str call), .imm d] = .exc "NoText" (some [("at", .int (-1))]) [.imm (.str call), .imm d] := by
  have hn : gNeg (.int 1) = some (.dat (.int (-1))) := rfl
  simp [F_read_body, B_read_body, funF, sSeq_ap, sIf_ap, bBl_ap, bTr_ap, bAnd_ap, bOr_ap, bNot_ap, eAnd_ap, eOr_ap, eNot_ap, eIf_ap, eOp_ap, eUn_ap, settled_ap, settle, eVar_ap, eC_ap, sAsg_ap, gN_ap, gT_ap, gsNil_ap, gsCons_ap, cont, conts, Slot.data, blD, truD, Out.bind, Out.of, Out.toS, OutS.bind, OutS.of, assign, put, storable, freeze, freezes, frz1, aNil_ap, aCons_ap, eCB_ap, eTup_ap, eLst_ap, eDic_ap, sRet_ap, handOut, setOwn, slotD, ownL, ownD, intD, strD, sSetL_ap, gSetL_ap, sNext_ap, eCall_ap, callF, toArg, toArgs, onceEach, isSlot, back, backSlot, sPar_ap, sPar2_ap, eM1_ap, eMT_ap, eSl_ap, oNone_ap, oPart_ap, eBmL_ap, eBmD_ap, eDGet2_ap, sPut_ap, eSetd_ap, sRaise_ap, eChain_ap, eCBK_ap, srcV_ap, srcE_ap, srcZ_ap, List.findIdx?_cons, sm0, sm1, sm2, sm3, sm4, sm5, h, hn]
def rbD (call x : Str) : D := match rb call x with
  | .ok rs => .tup (rs.map wD)
  | .error k => .int k
theorem told_spec {call x : Str} (hx : x.length ≤ 100000) : F__law_told [.imm (.str call), .imm (.str x)] = .ret (.dat (rbD call x)) [.imm (.str call), .imm (.str x)] := by
  have e := read_spec (call := call) hx
  unfold rbO at e
  unfold rbD
  cases h : rb call x with
  | ok rs =>
    rw [h] at e
    have e : F_read_body [.imm (.str call), .imm (.str x)] = .ret (.dat (.tup (rs.map wD))) [.imm (.str call), .imm (.str x)] := e
    show _ = OutF.ret (.dat (.tup (rs.map wD))) _
    generalize D.tup (rs.map wD) = R at e ⊢
    have hb : (sRet (eCall 2 F_read_body (aCons (eVar 0) (aCons (eVar 1) aNil)))) [.imm (.str call), .imm (.str x), .no] = .ret (.dat R) [.imm (.str call), .imm (.str x), .no] := by
      simp [funF, sSeq_ap, sIf_ap, bBl_ap, bTr_ap, bAnd_ap, bOr_ap, bNot_ap, eAnd_ap, eOr_ap, eNot_ap, eIf_ap, eOp_ap, eUn_ap, settled_ap, settle, eVar_ap, eC_ap, sAsg_ap, gN_ap, gT_ap, gsNil_ap, gsCons_ap, cont, conts, Slot.data, blD, truD, Out.bind, Out.of, Out.toS, OutS.bind, OutS.of, assign, put, storable, freeze, freezes, frz1, aNil_ap, aCons_ap, eCB_ap, eTup_ap, eLst_ap, eDic_ap, sRet_ap, handOut, setOwn, slotD, ownL, ownD, intD, strD, sSetL_ap, gSetL_ap, sNext_ap, eCall_ap, callF, toArg, toArgs, onceEach, isSlot, back, backSlot, sPar_ap, sPar2_ap, eM1_ap, eMT_ap, eSl_ap, oNone_ap, oPart_ap, eBmL_ap, eBmD_ap, eDGet2_ap, sPut_ap, eSetd_ap, sRaise_ap, eChain_ap, eCBK_ap, srcV_ap, srcE_ap, srcZ_ap, List.findIdx?_cons, sm0, sm1, sm2, sm3, sm4, sm5, e]
    have ht : X1__law_told [.imm (.str call), .imm (.str x), .no] = .ret (.dat R) [.imm (.str call), .imm (.str x), .no] := by
      unfold X1__law_told sTry
      rw [hb]
    simp [F__law_told, B__law_told, funF, ht]
  | error k =>
    rw [h] at e
    have hb : (sRet (eCall 2 F_read_body (aCons (eVar 0) (aCons (eVar 1) aNil)))) [.imm (.str call), .imm (.str x), .no] = .exc "NoText" (some [("at", .int k)]) [.imm (.str call), .imm (.str x), .no] := by
      simp [funF, sSeq_ap, sIf_ap, bBl_ap, bTr_ap, bAnd_ap, bOr_ap, bNot_ap, eAnd_ap, eOr_ap, eNot_ap, eIf_ap, eOp_ap, eUn_ap, settled_ap, settle, eVar_ap, eC_ap, sAsg_ap, gN_ap, gT_ap, gsNil_ap, gsCons_ap, cont, conts, Slot.data, blD, truD, Out.bind, Out.of, Out.toS, OutS.bind, OutS.of, assign, put, storable, freeze, freezes, frz1, aNil_ap, aCons_ap, eCB_ap, eTup_ap, eLst_ap, eDic_ap, sRet_ap, handOut, setOwn, slotD, ownL, ownD, intD, strD, sSetL_ap, gSetL_ap, sNext_ap, eCall_ap, callF, toArg, toArgs, onceEach, isSlot, back, backSlot, sPar_ap, sPar2_ap, eM1_ap, eMT_ap, eSl_ap, oNone_ap, oPart_ap, eBmL_ap, eBmD_ap, eDGet2_ap, sPut_ap, eSetd_ap, sRaise_ap, eChain_ap, eCBK_ap, srcV_ap, srcE_ap, srcZ_ap, List.findIdx?_cons, sm0, sm1, sm2, sm3, sm4, sm5, e]
    have ht : X1__law_told [.imm (.str call), .imm (.str x), .no] = .ret (.dat (.int k)) [.imm (.str call), .imm (.str x), .no] := by
      unfold X1__law_told sTry
      rw [hb]
      simp [storable, sRet_ap, eXf, Out.toS, handOut, noX, unX]
    simp [F__law_told, B__law_told, funF, ht]
theorem told_not {call : Str} {d : D} (h : gIsi [d, .any (.ty "str")] = some (.dat (.bl false))) : F__law_told [.imm (.str call), .imm d] = .ret (.dat (.int (-1))) [.imm (.str call), .imm d] := by
  have e := read_not (call := call) h
  have hb : (sRet (eCall 2 F_read_body (aCons (eVar 0) (aCons (eVar 1) aNil)))) [.imm (.str call), .imm d, .no] = .exc "NoText" (some [("at", .int (-1))]) [.imm (.str call), .imm d, .no] := by
    simp [funF, sSeq_ap, sIf_ap, bBl_ap, bTr_ap, bAnd_ap, bOr_ap, bNot_ap, eAnd_ap, eOr_ap, eNot_ap, eIf_ap, eOp_ap, eUn_ap, settled_ap, settle, eVar_ap, eC_ap, sAsg_ap, gN_ap, gT_ap, gsNil_ap, gsCons_ap, cont, conts, Slot.data, blD, truD, Out.bind, Out.of, Out.toS, OutS.bind, OutS.of, assign, put, storable, freeze, freezes, frz1, aNil_ap, aCons_ap, eCB_ap, eTup_ap, eLst_ap, eDic_ap, sRet_ap, handOut, setOwn, slotD, ownL, ownD, intD, strD, sSetL_ap, gSetL_ap, sNext_ap, eCall_ap, callF, toArg, toArgs, onceEach, isSlot, back, backSlot, sPar_ap, sPar2_ap, eM1_ap, eMT_ap, eSl_ap, oNone_ap, oPart_ap, eBmL_ap, eBmD_ap, eDGet2_ap, sPut_ap, eSetd_ap, sRaise_ap, eChain_ap, eCBK_ap, srcV_ap, srcE_ap, srcZ_ap, List.findIdx?_cons, sm0, sm1, sm2, sm3, sm4, sm5, e]
  have ht : X1__law_told [.imm (.str call), .imm d, .no] = .ret (.dat (.int (-1))) [.imm (.str call), .imm d, .no] := by
    unfold X1__law_told sTry
    rw [hb]
    simp [storable, sRet_ap, eXf, Out.toS, handOut, noX, unX]
  simp [F__law_told, B__law_told, funF, ht]
end DL.K46

namespace DL.K46
open PySem L2 PySem.Spec PyProof.Rows
theorem gd_wD {ws : List Str} (h : ∀ w ∈ ws, okS w) : gd (wD ws) = true ∧ dep (wD ws) ≤ 1 := by
  constructor
  · unfold wD
    rw [gd]
    refine gds_map fun w hw => ?_
    rw [gd]
    exact okS_iff.mpr (h w hw)
  · unfold wD
    rw [dep]
    have := deps_map (f := D.str) (n := 0) (l := ws) fun w _ => by simp [dep]
    omega
theorem okS_rows {call w : Str} {r : List Str} (h : wRow call w = some r) (hw : okS w) : ∀ z ∈ r, okS z := fun z hz => by
  have := (row_split call w).2 r h
  rw [← this] at hz
  exact okS_part hw hz
theorem gd_rD {call w : Str} (hw : okS w) : gd (rD (wRow call w)) = true ∧ dep (rD (wRow call w)) ≤ 60 := by
  cases h : wRow call w with
  | none => exact ⟨by simp [rD, gd], by simp [rD, dep]⟩
  | some r =>
    have := gd_wD (okS_rows h hw)
    exact ⟨this.1, by have := this.2; show dep (wD r) ≤ 60; omega⟩
theorem rD_none {call w : Str} : (wRow call w).isNone = true ↔ rD (wRow call w) = .non := by
  cases wRow call w with
  | none => simp [rD]
  | some r => simp [rD, wD]
theorem due_spec {call x : Str} (hx : x.length ≤ 100000) (hok : okS x) : F__law_due [.imm (.str call), .imm (.str x)] = .ret (.dat (rbD call x)) [.imm (.str call), .imm (.str x)] := by
  unfold rbD rb
  have hrow : ∀ p, p.length ≤ 100000 → F__law_row [.imm (.str call), .imm (.str p)] = .ret (.dat (rD (wRow call p))) [.imm (.str call), .imm (.str p)] := fun p hp => law_row_spec (small_of (by omega))
  by_cases hd : x = "-"
  · rw [if_pos hd]
    have hX : X1__law_due [.imm (.str call), .imm (.str x), .own (.lst []), .no, .no] = .val (.new (.lst [])) [.imm (.str call), .imm (.str x), .imm (.lst []), .no, .no] := by
      unfold X1__law_due
      exact eLc_map (s := datS []) (xs := ([] : List Str)) (inj := D.str) (out := D.str) (e0 := [.imm (.str call), .imm (.str x), .imm (.lst []), .no, .no]) rfl rfl rfl rfl rfl (fun i p hp => by cases hp) (fun p hp => by cases hp) (by simp)
    have hin : gInU .non (.lst []) = some (.dat (.bl false)) := rfl
    have hcut : gSl (.lst []) none (some 6) = some (.new (.lst [])) := rfl
    rw [hd] at hX ⊢
    simp [F__law_due, B__law_due, funF, sSeq_ap, sIf_ap, bBl_ap, bTr_ap, bAnd_ap, bOr_ap, bNot_ap, eAnd_ap, eOr_ap, eNot_ap, eIf_ap, eOp_ap, eUn_ap, settled_ap, settle, eVar_ap, eC_ap, sAsg_ap, gN_ap, gT_ap, gsNil_ap, gsCons_ap, cont, conts, Slot.data, blD, truD, Out.bind, Out.of, Out.toS, OutS.bind, OutS.of, assign, put, storable, freeze, freezes, frz1, aNil_ap, aCons_ap, eCB_ap, eTup_ap, eLst_ap, eDic_ap, sRet_ap, handOut, setOwn, slotD, ownL, ownD, intD, strD, sSetL_ap, gSetL_ap, sNext_ap, eCall_ap, callF, toArg, toArgs, onceEach, isSlot, back, backSlot, sPar_ap, sPar2_ap, eM1_ap, eMT_ap, eSl_ap, oNone_ap, oPart_ap, eBmL_ap, eBmD_ap, eDGet2_ap, sPut_ap, eSetd_ap, sRaise_ap, eChain_ap, eCBK_ap, srcV_ap, srcE_ap, srcZ_ap, List.findIdx?_cons, sm0, sm1, sm2, sm3, sm4, sm5, isi_non_str, isi_non_tuple, isi_non_int, isi_non_bool, isi_non_list, isi_bl_str, isi_bl_tuple, isi_bl_int, isi_bl_bool, isi_bl_list, isi_int_str, isi_int_tuple, isi_int_int, isi_int_bool, isi_int_list, isi_str_str, isi_str_tuple, isi_str_int, isi_str_bool, isi_str_list, isi_lst_str, isi_lst_tuple, isi_lst_int, isi_lst_bool, isi_lst_list, isi_tup_str, isi_tup_tuple, isi_tup_int, isi_tup_bool, isi_tup_list, gNeU_str, hX, hcut, hin, gLenU, gB, gTuple, oneD, seqD]
  · rw [if_neg hd]
    have hs := gSplit_str (x := x) (y := comma2) len_comma2 (by unfold sizeLine; omega)
    rw [show Txt.split x comma2 = pts x from rfl] at hs
    have hl := pts_len hx
    have hX : X1__law_due [.imm (.str call), .imm (.str x), .own (.lst ((pts x).map .str)), .no, .no] = .val (.new (.lst ((pts x).map fun p => rD (wRow call p)))) [.imm (.str call), .imm (.str x), .imm (.lst ((pts x).map .str)), .no, .no] := by
      unfold X1__law_due
      refine eLc_map (s := datS ((pts x).map .str)) (xs := pts x) (inj := D.str) (e0 := [.imm (.str call), .imm (.str x), .imm (.lst ((pts x).map .str)), .no, .no]) rfl rfl rfl rfl (by simp) (fun i p hp => by simp [hp]) (fun p hp => ?_) (by unfold sizeLine; omega)
      have h1 := hrow p (pts_part hx hp)
      generalize (pts x).map D.str = ds
      generalize rD (wRow call p) = R at h1 ⊢
      simp [oneC, funF, sSeq_ap, sIf_ap, bBl_ap, bTr_ap, bAnd_ap, bOr_ap, bNot_ap, eAnd_ap, eOr_ap, eNot_ap, eIf_ap, eOp_ap, eUn_ap, settled_ap, settle, eVar_ap, eC_ap, sAsg_ap, gN_ap, gT_ap, gsNil_ap, gsCons_ap, cont, conts, Slot.data, blD, truD, Out.bind, Out.of, Out.toS, OutS.bind, OutS.of, assign, put, storable, freeze, freezes, frz1, aNil_ap, aCons_ap, eCB_ap, eTup_ap, eLst_ap, eDic_ap, sRet_ap, handOut, setOwn, slotD, ownL, ownD, intD, strD, sSetL_ap, gSetL_ap, sNext_ap, eCall_ap, callF, toArg, toArgs, onceEach, isSlot, back, backSlot, sPar_ap, sPar2_ap, eM1_ap, eMT_ap, eSl_ap, oNone_ap, oPart_ap, eBmL_ap, eBmD_ap, eDGet2_ap, sPut_ap, eSetd_ap, sRaise_ap, eChain_ap, eCBK_ap, srcV_ap, srcE_ap, srcZ_ap, List.findIdx?_cons, sm0, sm1, sm2, sm3, sm4, sm5, wipable, wipeE, h1]
    have hcut : gSl (.lst ((pts x).map fun p => rD (wRow call p))) none (some 6) = some (.new (.lst (((pts x).take 6).map fun p => rD (wRow call p)))) := by
      have := cutD_to ((pts x).map fun p => rD (wRow call p)) 6
      rw [show ((6 : Nat) : Int) = 6 from rfl] at this
      show some (EV.new (.lst (cutD _ none (some 6)))) = _
      rw [this, List.map_take]
    have hok2 : ∀ p ∈ pts x, okS p := fun p hp => okS_part hok hp
    have hin := gInU_none (f := fun p => rD (wRow call p)) (p := fun p => (wRow call p).isNone) (l := (pts x).take 6) (fun p hp => (gd_rD (hok2 p (List.mem_of_mem_take hp))).1) (fun p hp => (gd_rD (hok2 p (List.mem_of_mem_take hp))).2) (fun p hp => rD_none)
    have hidx : gIdx (.lst ((pts x).map fun p => rD (wRow call p))) [.non] = ((pts x).findIdx? fun p => (wRow call p).isNone).map fun j => EV.dat (.int (j : Nat)) := by
      show (idxDD _ .non).map (fun j => EV.dat (.int (j : Nat))) = _
      rw [idxDD_gd (f := fun p => rD (wRow call p)) (p := fun p => (wRow call p).isNone) (by simp [gd]) (by simp [dep]) (fun p hp => (gd_rD (hok2 p hp)).1) (fun p hp => (gd_rD (hok2 p hp)).2) (fun p hp => rD_none)]
    have hlen := gLenU_lst ((pts x).map fun p => rD (wRow call p))
    rw [List.length_map] at hlen
    rw [comma2_eq.symm] at hs
    have hlst : isLst (.lst ((pts x).map fun p => rD (wRow call p))) = some () := rfl
    cases hf : ((pts x).take 6).findIdx? (fun p => (wRow call p).isNone) with
    | some k =>
      have hany : ((pts x).take 6).any (fun p => (wRow call p).isNone) = true := by
        obtain ⟨h1, h2, _⟩ := List.findIdx?_eq_some_iff_getElem.mp hf
        rw [List.any_eq_true]
        exact ⟨_, List.getElem_mem h1, h2⟩
      have hfi : (pts x).findIdx? (fun p => (wRow call p).isNone) = some k := by
        have := List.take_append_drop 6 (pts x)
        rw [← this, List.findIdx?_append, hf]
        rfl
      rw [hany] at hin
      rw [hfi] at hidx
      generalize ((pts x).take 6).map (fun p => rD (wRow call p)) = es at hcut hin
      generalize (pts x).map (fun p => rD (wRow call p)) = ds at *
      generalize (pts x).map D.str = ps at *
      simp [F__law_due, B__law_due, funF, sSeq_ap, sIf_ap, bBl_ap, bTr_ap, bAnd_ap, bOr_ap, bNot_ap, eAnd_ap, eOr_ap, eNot_ap, eIf_ap, eOp_ap, eUn_ap, settled_ap, settle, eVar_ap, eC_ap, sAsg_ap, gN_ap, gT_ap, gsNil_ap, gsCons_ap, cont, conts, Slot.data, blD, truD, Out.bind, Out.of, Out.toS, OutS.bind, OutS.of, assign, put, storable, freeze, freezes, frz1, aNil_ap, aCons_ap, eCB_ap, eTup_ap, eLst_ap, eDic_ap, sRet_ap, handOut, setOwn, slotD, ownL, ownD, intD, strD, sSetL_ap, gSetL_ap, sNext_ap, eCall_ap, callF, toArg, toArgs, onceEach, isSlot, back, backSlot, sPar_ap, sPar2_ap, eM1_ap, eMT_ap, eSl_ap, oNone_ap, oPart_ap, eBmL_ap, eBmD_ap, eDGet2_ap, sPut_ap, eSetd_ap, sRaise_ap, eChain_ap, eCBK_ap, srcV_ap, srcE_ap, srcZ_ap, List.findIdx?_cons, sm0, sm1, sm2, sm3, sm4, sm5, isi_non_str, isi_non_tuple, isi_non_int, isi_non_bool, isi_non_list, isi_bl_str, isi_bl_tuple, isi_bl_int, isi_bl_bool, isi_bl_list, isi_int_str, isi_int_tuple, isi_int_int, isi_int_bool, isi_int_list, isi_str_str, isi_str_tuple, isi_str_int, isi_str_bool, isi_str_list, isi_lst_str, isi_lst_tuple, isi_lst_int, isi_lst_bool, isi_lst_list, isi_tup_str, isi_tup_tuple, isi_tup_int, isi_tup_bool, isi_tup_list, gNeU_str, hd, hs, hX, hcut, hin, eBmR, hlst, hidx]
    | none =>
      have hany : ((pts x).take 6).any (fun p => (wRow call p).isNone) = false := by
        rw [List.findIdx?_eq_none_iff] at hf
        rw [List.any_eq_false]
        intro p hp
        rw [hf p hp]
        simp
      rw [hany] at hin
      by_cases hc : 6 < (pts x).length
      · simp only [if_pos hc]
        have hc : ¬ ((pts x).length : Int) < 7 := by omega
        generalize ((pts x).take 6).map (fun p => rD (wRow call p)) = es at hcut hin
        generalize (pts x).length = n at hlen hc
        generalize (pts x).map (fun p => rD (wRow call p)) = ds at *
        generalize (pts x).map D.str = ps at *
        simp [F__law_due, B__law_due, funF, sSeq_ap, sIf_ap, bBl_ap, bTr_ap, bAnd_ap, bOr_ap, bNot_ap, eAnd_ap, eOr_ap, eNot_ap, eIf_ap, eOp_ap, eUn_ap, settled_ap, settle, eVar_ap, eC_ap, sAsg_ap, gN_ap, gT_ap, gsNil_ap, gsCons_ap, cont, conts, Slot.data, blD, truD, Out.bind, Out.of, Out.toS, OutS.bind, OutS.of, assign, put, storable, freeze, freezes, frz1, aNil_ap, aCons_ap, eCB_ap, eTup_ap, eLst_ap, eDic_ap, sRet_ap, handOut, setOwn, slotD, ownL, ownD, intD, strD, sSetL_ap, gSetL_ap, sNext_ap, eCall_ap, callF, toArg, toArgs, onceEach, isSlot, back, backSlot, sPar_ap, sPar2_ap, eM1_ap, eMT_ap, eSl_ap, oNone_ap, oPart_ap, eBmL_ap, eBmD_ap, eDGet2_ap, sPut_ap, eSetd_ap, sRaise_ap, eChain_ap, eCBK_ap, srcV_ap, srcE_ap, srcZ_ap, List.findIdx?_cons, sm0, sm1, sm2, sm3, sm4, sm5, isi_non_str, isi_non_tuple, isi_non_int, isi_non_bool, isi_non_list, isi_bl_str, isi_bl_tuple, isi_bl_int, isi_bl_bool, isi_bl_list, isi_int_str, isi_int_tuple, isi_int_int, isi_int_bool, isi_int_list, isi_str_str, isi_str_tuple, isi_str_int, isi_str_bool, isi_str_list, isi_lst_str, isi_lst_tuple, isi_lst_int, isi_lst_bool, isi_lst_list, isi_tup_str, isi_tup_tuple, isi_tup_int, isi_tup_bool, isi_tup_list, gNeU_str, hd, hs, hX, hcut, hin, hlen, gB, hc]
      · simp only [if_neg hc]
        have hmm : (pts x).map (fun p => rD (wRow call p)) = ((pts x).map spl).map wD := by
          rw [List.map_map]
          refine List.map_congr_left fun p hp => ?_
          have hp6 : p ∈ (pts x).take 6 := by
            rw [List.take_of_length_le (by omega)]
            exact hp
          rw [List.findIdx?_eq_none_iff] at hf
          have h1 := hf p hp6
          cases hw : wRow call p with
          | none => rw [hw] at h1; cases h1
          | some r =>
            show wD r = wD (spl p)
            rw [show spl p = Txt.split p blank from rfl, (row_split call p).2 r hw]
        rw [← hmm]
        have ht : gTuple [.lst ((pts x).map fun p => rD (wRow call p))] = some (.dat (.tup ((pts x).map fun p => rD (wRow call p)))) := rfl
        have hc : ((pts x).length : Int) < 7 := by omega
        generalize ((pts x).take 6).map (fun p => rD (wRow call p)) = es at hcut hin
        generalize (pts x).length = n at hlen hc
        generalize (pts x).map (fun p => rD (wRow call p)) = ds at *
        generalize (pts x).map D.str = ps at *
        simp [F__law_due, B__law_due, funF, sSeq_ap, sIf_ap, bBl_ap, bTr_ap, bAnd_ap, bOr_ap, bNot_ap, eAnd_ap, eOr_ap, eNot_ap, eIf_ap, eOp_ap, eUn_ap, settled_ap, settle, eVar_ap, eC_ap, sAsg_ap, gN_ap, gT_ap, gsNil_ap, gsCons_ap, cont, conts, Slot.data, blD, truD, Out.bind, Out.of, Out.toS, OutS.bind, OutS.of, assign, put, storable, freeze, freezes, frz1, aNil_ap, aCons_ap, eCB_ap, eTup_ap, eLst_ap, eDic_ap, sRet_ap, handOut, setOwn, slotD, ownL, ownD, intD, strD, sSetL_ap, gSetL_ap, sNext_ap, eCall_ap, callF, toArg, toArgs, onceEach, isSlot, back, backSlot, sPar_ap, sPar2_ap, eM1_ap, eMT_ap, eSl_ap, oNone_ap, oPart_ap, eBmL_ap, eBmD_ap, eDGet2_ap, sPut_ap, eSetd_ap, sRaise_ap, eChain_ap, eCBK_ap, srcV_ap, srcE_ap, srcZ_ap, List.findIdx?_cons, sm0, sm1, sm2, sm3, sm4, sm5, isi_non_str, isi_non_tuple, isi_non_int, isi_non_bool, isi_non_list, isi_bl_str, isi_bl_tuple, isi_bl_int, isi_bl_bool, isi_bl_list, isi_int_str, isi_int_tuple, isi_int_int, isi_int_bool, isi_int_list, isi_str_str, isi_str_tuple, isi_str_int, isi_str_bool, isi_str_list, isi_lst_str, isi_lst_tuple, isi_lst_int, isi_lst_bool, isi_lst_list, isi_tup_str, isi_tup_tuple, isi_tup_int, isi_tup_bool, isi_tup_list, gNeU_str, hd, hs, hX, hcut, hin, hlen, gB, hc, ht]
theorem due_not {call : Str} {d : D} (h : gIsi [d, .any (.ty "str")] = some (.dat (.bl false))) : F__law_due [.imm (.str call), .imm d] = .ret (.dat (.int (-1))) [.imm (.str call), .imm d] := by
  have hn : gNeg (.int 1) = some (.dat (.int (-1))) := rfl
  simp [F__law_due, B__law_due, funF, sSeq_ap, sIf_ap, bBl_ap, bTr_ap, bAnd_ap, bOr_ap, bNot_ap, eAnd_ap, eOr_ap, eNot_ap, eIf_ap, eOp_ap, eUn_ap, settled_ap, settle, eVar_ap, eC_ap, sAsg_ap, gN_ap, gT_ap, gsNil_ap, gsCons_ap, cont, conts, Slot.data, blD, truD, Out.bind, Out.of, Out.toS, OutS.bind, OutS.of, assign, put, storable, freeze, freezes, frz1, aNil_ap, aCons_ap, eCB_ap, eTup_ap, eLst_ap, eDic_ap, sRet_ap, handOut, setOwn, slotD, ownL, ownD, intD, strD, sSetL_ap, gSetL_ap, sNext_ap, eCall_ap, callF, toArg, toArgs, onceEach, isSlot, back, backSlot, sPar_ap, sPar2_ap, eM1_ap, eMT_ap, eSl_ap, oNone_ap, oPart_ap, eBmL_ap, eBmD_ap, eDGet2_ap, sPut_ap, eSetd_ap, sRaise_ap, eChain_ap, eCBK_ap, srcV_ap, srcE_ap, srcZ_ap, List.findIdx?_cons, sm0, sm1, sm2, sm3, sm4, sm5, h, hn]
/-! ### bodies written -/
def BodyS (call : Str) (rs : List (List Str)) : Prop := ∀ r ∈ rs, RowS call r
def bdD (rs : List (List Str)) : D := .tup (rs.map wD)
def wrt (rs : List (List Str)) : Str := if rs = [] then "-" else Str.join comma2 (rs.map (Str.join blank))
theorem txt_join (sep : Str) (ps : List Str) : Txt.join sep ps = Str.join sep ps := StrLaws.glued_eq_join sep ps
theorem sum_le {ps : List Str} {n : Nat} (h : ∀ p ∈ ps, p.length ≤ n) : (ps.map (·.length)).sum ≤ ps.length * n := by
  induction ps with
  | nil => simp
  | cons a r ih =>
    have h1 := h a (by simp)
    have h2 := ih fun p hp => h p (by simp [hp])
    simp only [List.map_cons, List.sum_cons, List.length_cons, Nat.succ_mul]
    omega
theorem gJoin_str {sep : Str} {ps : List Str} (h : (ps.map (·.length)).sum + ps.length * sep.length ≤ 16777216) : gJoin (.str sep) (.lst (ps.map .str)) = some (.dat (.str (Str.join sep ps))) := by
  show ((strsD (ps.map D.str)).bind fun ys => if (ys.map (·.length)).sum + ys.length * sep.length ≤ 16777216 then some (EV.dat (.str (Txt.join sep ys))) else none) = _
  rw [strsD_map]
  show (if (ps.map (·.length)).sum + ps.length * sep.length ≤ 16777216 then _ else _) = _
  rw [if_pos h, txt_join]
theorem gJoin_tup {sep : Str} {ps : List Str} (h : (ps.map (·.length)).sum + ps.length * sep.length ≤ 16777216) : gJoin (.str sep) (.tup (ps.map .str)) = some (.dat (.str (Str.join sep ps))) := gJoin_str h
theorem row_words {call : Str} {r : List Str} (h : RowS call r) : (r.length = 1 ∨ r.length = 2) ∧ ∀ z ∈ r, z.length ≤ 8 := by
  rcases h with rfl | ⟨b, h1, rfl⟩ | ⟨b, h1, h2, rfl⟩
  · refine ⟨.inl rfl, fun z hz => ?_⟩
    rw [List.mem_singleton.mp hz]
    decide +kernel
  · refine ⟨.inr rfl, fun z hz => ?_⟩
    rcases List.mem_cons.mp hz with e | e
    · rw [e]; decide +kernel
    · rw [List.mem_singleton.mp e]; exact (nmS_iff.mp h1).2.1
  · refine ⟨.inr rfl, fun z hz => ?_⟩
    rcases List.mem_cons.mp hz with e | e
    · rw [e]; decide +kernel
    · rw [List.mem_singleton.mp e]; exact (nmS_iff.mp h1).2.1
theorem join_ne {ps : List Str} (hne : ps ≠ []) (h : ∀ p ∈ ps, 1 ≤ p.length) : 1 ≤ (Str.join comma2 ps).length := by
  match ps, hne, h with
  | [a], _, h => exact h a (by simp)
  | a :: b :: r, _, h =>
    show 1 ≤ (a ++ comma2 ++ Str.join comma2 (b :: r)).length
    rw [Str.length_append, Str.length_append]
    have := h a (by simp)
    omega
theorem joined_len {ps : List Str} {n : Nat} (h : ∀ p ∈ ps, p.length ≤ n) : (Str.join comma2 ps).length ≤ ps.length * (n + 2) := by
  have h1 := StrLaws.join_length_le comma2 ps
  have h2 := sum_le h
  have h3 : comma2.length = 2 := rfl
  rw [h3] at h1
  rw [Nat.mul_add]
  omega
theorem show_spec {call : Str} {rs : List (List Str)} (h : BodyS call rs) (hl : rs.length ≤ 1000) : F_show_body [.imm (bdD rs)] = .ret (.dat (.str (wrt rs))) [.imm (bdD rs)] := by
  have hX : X1_show_body [.imm (bdD rs), .no] = .val (.new (.lst ((rs.map (Str.join blank)).map .str))) [.imm (bdD rs), .no] := by
    unfold X1_show_body
    rw [List.map_map]
    refine eLc_map (s := datS (rs.map wD)) (xs := rs) (inj := wD) (e0 := [.imm (bdD rs), .no]) rfl rfl rfl rfl (by simp) (fun i r hr => by simp [hr]) (fun r hr => ?_) (by unfold sizeLine; omega)
    have hw := row_words (h r hr)
    have hs := sum_le hw.2
    have hj : gJoin (.str blank) (wD r) = some (.dat (.str (Str.join blank r))) := gJoin_tup (by
      have : blank.length = 1 := rfl
      rw [this]
      rcases hw.1 with e | e <;> (rw [e] at hs ⊢; omega))
    show oneC _ _ _ _ _ _ = some (some (.str (Str.join blank r)), _)
    rw [blank_eq]
    generalize wD r = W at hj ⊢
    generalize bdD rs = B
    simp [oneC, funF, sSeq_ap, sIf_ap, bBl_ap, bTr_ap, bAnd_ap, bOr_ap, bNot_ap, eAnd_ap, eOr_ap, eNot_ap, eIf_ap, eOp_ap, eUn_ap, settled_ap, settle, eVar_ap, eC_ap, sAsg_ap, gN_ap, gT_ap, gsNil_ap, gsCons_ap, cont, conts, Slot.data, blD, truD, Out.bind, Out.of, Out.toS, OutS.bind, OutS.of, assign, put, storable, freeze, freezes, frz1, aNil_ap, aCons_ap, eCB_ap, eTup_ap, eLst_ap, eDic_ap, sRet_ap, handOut, setOwn, slotD, ownL, ownD, intD, strD, sSetL_ap, gSetL_ap, sNext_ap, eCall_ap, callF, toArg, toArgs, onceEach, isSlot, back, backSlot, sPar_ap, sPar2_ap, eM1_ap, eMT_ap, eSl_ap, oNone_ap, oPart_ap, eBmL_ap, eBmD_ap, eDGet2_ap, sPut_ap, eSetd_ap, sRaise_ap, eChain_ap, eCBK_ap, srcV_ap, srcE_ap, srcZ_ap, List.findIdx?_cons, sm0, sm1, sm2, sm3, sm4, sm5, wipable, wipeE, hj]
  have hlen : ∀ p ∈ rs.map (Str.join blank), 4 ≤ p.length ∧ p.length ≤ 13 := fun p hp => by
    obtain ⟨r, hr, rfl⟩ := List.mem_map.mp hp
    exact row_len (h r hr)
  have hs := sum_le fun p hp => (hlen p hp).2
  rw [List.length_map] at hs
  have hj := gJoin_str (sep := comma2) (ps := rs.map (Str.join blank)) (by
    have : comma2.length = 2 := rfl
    rw [this, List.length_map]
    omega)
  have hjl := joined_len fun p hp => (hlen p hp).2
  rw [List.length_map] at hjl
  unfold wrt
  by_cases hn : rs = []
  · rw [if_pos hn]
    subst hn
    have ht : truD (.str (Str.join comma2 (([] : List (List Str)).map (Str.join blank)))) = some false := rfl
    rw [← comma2_eq] at hj ht
    generalize Str.join ", " (([] : List (List Str)).map (Str.join blank)) = J at hj ht
    generalize (([] : List (List Str)).map (Str.join blank)).map D.str = ps at hX hj
    generalize bdD [] = B at *
    have hb : (eM1 gJoin (eC (.str ", ")) (settled X1_show_body)) [.imm B, .no] = .val (.dat (.str J)) [.imm B, .no] := by
      simp [funF, sSeq_ap, sIf_ap, bBl_ap, bTr_ap, bAnd_ap, bOr_ap, bNot_ap, eAnd_ap, eOr_ap, eNot_ap, eIf_ap, eOp_ap, eUn_ap, settled_ap, settle, eVar_ap, eC_ap, sAsg_ap, gN_ap, gT_ap, gsNil_ap, gsCons_ap, cont, conts, Slot.data, blD, truD, Out.bind, Out.of, Out.toS, OutS.bind, OutS.of, assign, put, storable, freeze, freezes, frz1, aNil_ap, aCons_ap, eCB_ap, eTup_ap, eLst_ap, eDic_ap, sRet_ap, handOut, setOwn, slotD, ownL, ownD, intD, strD, sSetL_ap, gSetL_ap, sNext_ap, eCall_ap, callF, toArg, toArgs, onceEach, isSlot, back, backSlot, sPar_ap, sPar2_ap, eM1_ap, eMT_ap, eSl_ap, oNone_ap, oPart_ap, eBmL_ap, eBmD_ap, eDGet2_ap, sPut_ap, eSetd_ap, sRaise_ap, eChain_ap, eCBK_ap, srcV_ap, srcE_ap, srcZ_ap, List.findIdx?_cons, sm0, sm1, sm2, sm3, sm4, sm5, hX, hj]
    have hor : (eOrT (eM1 gJoin (eC (.str ", ")) (settled X1_show_body)) (eC (.str "-"))) [.imm B, .no] = .val (.dat (.str "-")) [.imm B, .no] := by
      unfold eOrT
      rw [hb]
      show (Out.of (truD (.str J)) [.imm B, .no]).bind _ = _
      rw [ht]
      rfl
    simp [F_show_body, B_show_body, funF, sRet_ap, hor, Out.toS, handOut]
  · rw [if_neg hn]
    have hpos := join_ne (ps := rs.map (Str.join blank)) (by simpa using hn) fun p hp => by have := (hlen p hp).1; omega
    have ht : truD (.str (Str.join comma2 (rs.map (Str.join blank)))) = some true := by
      show (if small (Str.join comma2 (rs.map (Str.join blank))).length = true then some (((Str.join comma2 (rs.map (Str.join blank))).length : Int) != 0) else none) = _
      rw [if_pos (small_of (by omega))]
      congr 1
      rw [bne_iff_ne]
      omega
    rw [← comma2_eq] at hj ht ⊢
    generalize Str.join ", " (rs.map (Str.join blank)) = J at hj ht ⊢
    generalize (rs.map (Str.join blank)).map D.str = ps at hX hj
    generalize bdD rs = B at *
    have hb : (eM1 gJoin (eC (.str ", ")) (settled X1_show_body)) [.imm B, .no] = .val (.dat (.str J)) [.imm B, .no] := by
      simp [funF, sSeq_ap, sIf_ap, bBl_ap, bTr_ap, bAnd_ap, bOr_ap, bNot_ap, eAnd_ap, eOr_ap, eNot_ap, eIf_ap, eOp_ap, eUn_ap, settled_ap, settle, eVar_ap, eC_ap, sAsg_ap, gN_ap, gT_ap, gsNil_ap, gsCons_ap, cont, conts, Slot.data, blD, truD, Out.bind, Out.of, Out.toS, OutS.bind, OutS.of, assign, put, storable, freeze, freezes, frz1, aNil_ap, aCons_ap, eCB_ap, eTup_ap, eLst_ap, eDic_ap, sRet_ap, handOut, setOwn, slotD, ownL, ownD, intD, strD, sSetL_ap, gSetL_ap, sNext_ap, eCall_ap, callF, toArg, toArgs, onceEach, isSlot, back, backSlot, sPar_ap, sPar2_ap, eM1_ap, eMT_ap, eSl_ap, oNone_ap, oPart_ap, eBmL_ap, eBmD_ap, eDGet2_ap, sPut_ap, eSetd_ap, sRaise_ap, eChain_ap, eCBK_ap, srcV_ap, srcE_ap, srcZ_ap, List.findIdx?_cons, sm0, sm1, sm2, sm3, sm4, sm5, hX, hj]
    have hor : (eOrT (eM1 gJoin (eC (.str ", ")) (settled X1_show_body)) (eC (.str "-"))) [.imm B, .no] = .val (.dat (.str J)) [.imm B, .no] := by
      unfold eOrT
      rw [hb]
      show (Out.of (truD (.str J)) [.imm B, .no]).bind _ = _
      rw [ht]
      rfl
    simp [F_show_body, B_show_body, funF, sRet_ap, hor, Out.toS, handOut]
theorem written_spec {call : Str} {rs : List (List Str)} (h : BodyS call rs) (hl : rs.length ≤ 1000) : F__law_written [.imm (bdD rs)] = .ret (.dat (.str (wrt rs))) [.imm (bdD rs)] := by
  have hlen : ∀ p ∈ rs.map (Str.join blank), 4 ≤ p.length ∧ p.length ≤ 13 := fun p hp => by
    obtain ⟨r, hr, rfl⟩ := List.mem_map.mp hp
    exact row_len (h r hr)
  have key := sFor_inv (s := datS (rs.map wD)) (g := gN 2) (F := Y1__law_written) (fs := srcV (eVar 0)) (env := [.imm (bdD rs), .own (.lst []), .no]) (e0 := [.imm (bdD rs), .own (.lst []), .no])
    (I := fun i env => ∃ z, Jk' z ∧ env = [.imm (bdD rs), .own (.lst (((rs.take i).map (Str.join blank)).map .str)), z]) rfl ⟨.no, Jk'.no, rfl⟩ (fun _ _ => rfl) ?_
  · obtain ⟨env', e, z, jz, rfl⟩ := key
    change X1__law_written _ = _ at e
    have e : X1__law_written [.imm (bdD rs), .own (.lst []), .no] = .next [.imm (bdD rs), .own (.lst ((rs.map (Str.join blank)).map .str)), z] := by
      rw [e]
      simp
    have hs := sum_le fun p hp => (hlen p hp).2
    rw [List.length_map] at hs
    have hj := gJoin_str (sep := comma2) (ps := rs.map (Str.join blank)) (by
      have : comma2.length = 2 := rfl
      rw [this, List.length_map]
      omega)
    rw [← comma2_eq] at hj
    unfold wrt
    by_cases hn : rs = []
    · rw [if_pos hn]
      subst hn
      have hne : gNeU (.lst ((([] : List (List Str)).map (Str.join blank)).map .str)) (.lst []) = some (.dat (.bl false)) := rfl
      generalize ((([] : List (List Str)).map (Str.join blank)).map D.str) = ps at e hne
      generalize bdD [] = B at *
      rcases jz with rfl | ⟨q, rfl⟩ <;> simp [F__law_written, B__law_written, funF, sSeq_ap, sIf_ap, bBl_ap, bTr_ap, bAnd_ap, bOr_ap, bNot_ap, eAnd_ap, eOr_ap, eNot_ap, eIf_ap, eOp_ap, eUn_ap, settled_ap, settle, eVar_ap, eC_ap, sAsg_ap, gN_ap, gT_ap, gsNil_ap, gsCons_ap, cont, conts, Slot.data, blD, truD, Out.bind, Out.of, Out.toS, OutS.bind, OutS.of, assign, put, storable, freeze, freezes, frz1, aNil_ap, aCons_ap, eCB_ap, eTup_ap, eLst_ap, eDic_ap, sRet_ap, handOut, setOwn, slotD, ownL, ownD, intD, strD, sSetL_ap, gSetL_ap, sNext_ap, eCall_ap, callF, toArg, toArgs, onceEach, isSlot, back, backSlot, sPar_ap, sPar2_ap, eM1_ap, eMT_ap, eSl_ap, oNone_ap, oPart_ap, eBmL_ap, eBmD_ap, eDGet2_ap, sPut_ap, eSetd_ap, sRaise_ap, eChain_ap, eCBK_ap, srcV_ap, srcE_ap, srcZ_ap, List.findIdx?_cons, sm0, sm1, sm2, sm3, sm4, sm5, e, hne]
    · rw [if_neg hn, ← comma2_eq]
      have hne : gNeU (.lst ((rs.map (Str.join blank)).map .str)) (.lst []) = some (.dat (.bl true)) := by
        refine gNeU_diff ?_ (by simp [gd, gds]) ?_ (by simp [dep, deps]) ?_
        · rw [gd]
          refine gds_map fun p hp => ?_
          rw [gd, okS_iff]
          obtain ⟨r, hr, rfl⟩ := List.mem_map.mp hp
          refine okS_join (by intro c hc; simp [blank] at hc; omega) fun z hz => ?_
          have hsay : okS "say" := by unfold okS; decide +kernel
          have hcall : okS "call" := by unfold okS; decide +kernel
          have hnext : okS "next" := by unfold okS; decide +kernel
          rcases h r hr with rfl | ⟨b, h1, rfl⟩ | ⟨b, h1, h2, rfl⟩
          · rw [List.mem_singleton.mp hz]; exact hnext
          · rcases List.mem_cons.mp hz with e | e
            · rw [e]; exact hsay
            · rw [List.mem_singleton.mp e]; exact okS_nm h1
          · rcases List.mem_cons.mp hz with e | e
            · rw [e]; exact hcall
            · rw [List.mem_singleton.mp e]; exact okS_nm h1
        · rw [dep]
          have := deps_map (f := D.str) (n := 0) (l := rs.map (Str.join blank)) fun w _ => by simp [dep]
          omega
        · intro z
          cases rs with
          | nil => exact hn rfl
          | cons a r => simp at z
      generalize Str.join ", " (rs.map (Str.join blank)) = J at hj ⊢
      generalize ((rs.map (Str.join blank)).map D.str) = ps at e hj hne
      generalize bdD rs = B at *
      rcases jz with rfl | ⟨q, rfl⟩ <;> simp [F__law_written, B__law_written, funF, sSeq_ap, sIf_ap, bBl_ap, bTr_ap, bAnd_ap, bOr_ap, bNot_ap, eAnd_ap, eOr_ap, eNot_ap, eIf_ap, eOp_ap, eUn_ap, settled_ap, settle, eVar_ap, eC_ap, sAsg_ap, gN_ap, gT_ap, gsNil_ap, gsCons_ap, cont, conts, Slot.data, blD, truD, Out.bind, Out.of, Out.toS, OutS.bind, OutS.of, assign, put, storable, freeze, freezes, frz1, aNil_ap, aCons_ap, eCB_ap, eTup_ap, eLst_ap, eDic_ap, sRet_ap, handOut, setOwn, slotD, ownL, ownD, intD, strD, sSetL_ap, gSetL_ap, sNext_ap, eCall_ap, callF, toArg, toArgs, onceEach, isSlot, back, backSlot, sPar_ap, sPar2_ap, eM1_ap, eMT_ap, eSl_ap, oNone_ap, oPart_ap, eBmL_ap, eBmD_ap, eDGet2_ap, sPut_ap, eSetd_ap, sRaise_ap, eChain_ap, eCBK_ap, srcV_ap, srcE_ap, srcZ_ap, List.findIdx?_cons, sm0, sm1, sm2, sm3, sm4, sm5, e, hne, hj]
  · rintro i env hi ⟨z, jz, rfl⟩
    have hi : i < rs.length := by simpa using hi
    have e1 := List.getElem?_eq_getElem hi
    have hm := List.getElem_mem hi
    generalize rs[i] = r at e1 hm
    have hsz : (((rs.take i).map (Str.join blank)).map D.str).length < sizeLine := by
      simp
      unfold sizeLine
      omega
    have htk : ((rs.take (i + 1)).map (Str.join blank)).map D.str = ((rs.take i).map (Str.join blank)).map D.str ++ [.str (Str.join blank r)] := by
      rw [List.take_add_one, e1]
      simp
    refine ⟨wD r, [.imm (bdD rs), .own (.lst (((rs.take (i + 1)).map (Str.join blank)).map .str)), .imm (wD r)], by simp [e1], ?_, _, Jk'.im _, rfl⟩
    rw [htk]
    have hw := row_words (h r hm)
    have hl := wD_len r
    generalize ((rs.take i).map (Str.join blank)).map D.str = acc at hsz ⊢
    generalize bdD rs = B
    match r, hw, hl with
    | [a], _, hl =>
      have i0 : gIx (wD [a]) (.int 0) = some (.dat (.str a)) := gIx_tup (n := 0) rfl
      have hj : Str.join blank [a] = a := rfl
      rw [hj]
      generalize wD [a] = W at *
      rcases jz with rfl | ⟨q, rfl⟩ <;> simp [Y1__law_written, funF, sSeq_ap, sIf_ap, bBl_ap, bTr_ap, bAnd_ap, bOr_ap, bNot_ap, eAnd_ap, eOr_ap, eNot_ap, eIf_ap, eOp_ap, eUn_ap, settled_ap, settle, eVar_ap, eC_ap, sAsg_ap, gN_ap, gT_ap, gsNil_ap, gsCons_ap, cont, conts, Slot.data, blD, truD, Out.bind, Out.of, Out.toS, OutS.bind, OutS.of, assign, put, storable, freeze, freezes, frz1, aNil_ap, aCons_ap, eCB_ap, eTup_ap, eLst_ap, eDic_ap, sRet_ap, handOut, setOwn, slotD, ownL, ownD, intD, strD, sSetL_ap, gSetL_ap, sNext_ap, eCall_ap, callF, toArg, toArgs, onceEach, isSlot, back, backSlot, sPar_ap, sPar2_ap, eM1_ap, eMT_ap, eSl_ap, oNone_ap, oPart_ap, eBmL_ap, eBmD_ap, eDGet2_ap, sPut_ap, eSetd_ap, sRaise_ap, eChain_ap, eCBK_ap, srcV_ap, srcE_ap, srcZ_ap, List.findIdx?_cons, sm0, sm1, sm2, sm3, sm4, sm5, hl, gEqU_int, i0, gAppend, hsz]
    | [a, b], hw, hl =>
      have i0 : gIx (wD [a, b]) (.int 0) = some (.dat (.str a)) := gIx_tup (n := 0) rfl
      have i1 : gIx (wD [a, b]) (.int 1) = some (.dat (.str b)) := gIx_tup (n := 1) rfl
      have hj : Str.join blank [a, b] = a ++ blank ++ b := rfl
      have la := hw.2 a (by simp)
      have lb := hw.2 b (by simp)
      have lbl : blank.length = 1 := rfl
      have p1 := gAddU_str (x := a) (y := blank) (small_of (by omega))
      have p2 := gAddU_str (x := a ++ blank) (y := b) (small_of (by rw [Str.length_append]; omega))
      rw [hj]
      rw [← blank_eq] at *
      generalize wD [a, b] = W at *
      rcases jz with rfl | ⟨q, rfl⟩ <;> simp [Y1__law_written, funF, sSeq_ap, sIf_ap, bBl_ap, bTr_ap, bAnd_ap, bOr_ap, bNot_ap, eAnd_ap, eOr_ap, eNot_ap, eIf_ap, eOp_ap, eUn_ap, settled_ap, settle, eVar_ap, eC_ap, sAsg_ap, gN_ap, gT_ap, gsNil_ap, gsCons_ap, cont, conts, Slot.data, blD, truD, Out.bind, Out.of, Out.toS, OutS.bind, OutS.of, assign, put, storable, freeze, freezes, frz1, aNil_ap, aCons_ap, eCB_ap, eTup_ap, eLst_ap, eDic_ap, sRet_ap, handOut, setOwn, slotD, ownL, ownD, intD, strD, sSetL_ap, gSetL_ap, sNext_ap, eCall_ap, callF, toArg, toArgs, onceEach, isSlot, back, backSlot, sPar_ap, sPar2_ap, eM1_ap, eMT_ap, eSl_ap, oNone_ap, oPart_ap, eBmL_ap, eBmD_ap, eDGet2_ap, sPut_ap, eSetd_ap, sRaise_ap, eChain_ap, eCBK_ap, srcV_ap, srcE_ap, srcZ_ap, List.findIdx?_cons, sm0, sm1, sm2, sm3, sm4, sm5, hl, gEqU_int, i0, i1, p1, p2, gAppend, hsz]
    | [], hw, _ => exact absurd hw.1 (by simp)
    | a :: b :: c :: r, hw, _ => exact absurd hw.1 (by simp)
/-- what was written is read again -/
theorem rb_wrt {call : Str} {rs : List (List Str)} (h : BodyS call rs) (hl : rs.length ≤ 6) : rb call (wrt rs) = .ok rs := by
  unfold wrt
  by_cases hn : rs = []
  · rw [if_pos hn, hn]
    unfold rb
    rw [if_pos rfl]
  · rw [if_neg hn]
    have hlen : ∀ p ∈ rs.map (Str.join blank), 4 ≤ p.length ∧ p.length ≤ 13 := fun p hp => by
      obtain ⟨r, hr, rfl⟩ := List.mem_map.mp hp
      exact row_len (h r hr)
    have hne : (rs.map (Str.join blank)) ≠ [] := by simpa using hn
    have hpts : pts (Str.join comma2 (rs.map (Str.join blank))) = rs.map (Str.join blank) := split_two (by omega) (by omega) (by omega) hne fun p hp => by
      obtain ⟨r, hr, rfl⟩ := List.mem_map.mp hp
      exact row_comma (h r hr)
    have hnd : Str.join comma2 (rs.map (Str.join blank)) ≠ "-" := fun z => by
      have h1 : ("-" : Str).length = 1 := by decide +kernel
      have h2 := congrArg Str.length z
      rw [h1] at h2
      obtain ⟨a, r, hr⟩ := List.exists_cons_of_ne_nil hne
      have h3 := part_len (x := Str.join comma2 (rs.map (Str.join blank))) (y := comma2) (p := a) (by
        show a ∈ pts _
        rw [hpts, hr]
        simp)
      have h4 := (hlen a (by rw [hr]; simp)).1
      omega
    unfold rb
    rw [if_neg hnd, hpts]
    have hf : ((rs.map (Str.join blank)).take 6).findIdx? (fun p => (wRow call p).isNone) = none := by
      rw [List.findIdx?_eq_none_iff]
      intro p hp
      obtain ⟨r, hr, rfl⟩ := List.mem_map.mp (List.mem_of_mem_take hp)
      rw [wRow_join (h r hr)]
      rfl
    rw [hf]
    have hc : ¬ 6 < (rs.map (Str.join blank)).length := by simp; omega
    simp only [if_neg hc, List.map_map]
    congr 1
    conv => rhs; rw [← List.map_id rs]
    refine List.map_congr_left fun r hr => ?_
    show spl (Str.join blank r) = r
    exact (row_split call _).2 r (wRow_join (h r hr))
end DL.K46

namespace DL.K46
open PySem L2 PySem.Spec PyProof.Rows
def sD (ps : List Str) : D := .lst (ps.map D.str)
theorem gd_sD {ps : List Str} (h : ∀ p ∈ ps, okS p) : gd (sD ps) = true ∧ dep (sD ps) ≤ 1 := gd_wD h
theorem ne_nil {ps : List Str} (h : ∀ p ∈ ps, okS p) : gNeU (sD ps) (.lst []) = some (.dat (.bl (!ps.isEmpty))) := by
  cases ps with
  | nil => rfl
  | cons a r =>
    have := gd_sD h
    refine gNeU_diff this.1 (by simp [gd, gds]) (by have := this.2; omega) (by simp [dep, deps]) ?_
    intro z
    simp [sD] at z
theorem sD_len (ps : List Str) : gLenU [sD ps] = some (.dat (.int ps.length)) := by simp [sD, gLenU]
theorem sD_ix {ps : List Str} {k : Nat} {p : Str} (h : ps[k]? = some p) : gIx (sD ps) (.int (k : Int)) = some (.dat (.str p)) := gIx_lst (by simp [h])
theorem body_later {call : Str} {d : D} {calls : List Str} {w3 : Slot} (hz : calls.length ≤ 1000) : X1__law_body [.par d, .imm (.str call), .par (sD calls), w3, .no, .no, .no, .no, .no] =
    .val (.new (sD (calls.filter fun z => ltS call z))) [.par d, .imm (.str call), .par (sD calls), w3, .no, .no, .no, .no, .no] := by
  unfold X1__law_body
  refine eLc_pure (s := liveS 2 (calls.map D.str).length) (xs := calls) (inj := D.str) (p := fun z => ltS call z) (e0 := [.par d, .imm (.str call), .par (sD calls), w3, .no, .no, .no, .no, .no]) rfl rfl rfl ?_ (by simp [liveS]) (fun i z hz => ?_) (fun z hz => ?_) (by unfold sizeLine; omega)
  · simp [liveS, liveL, sD]
  · simp [liveS, liveL, sD, hz]
  · generalize sD calls = C
    cases h : ltS call z <;> simp [oneC, funF, sSeq_ap, sIf_ap, bBl_ap, bTr_ap, bAnd_ap, bOr_ap, bNot_ap, eAnd_ap, eOr_ap, eNot_ap, eIf_ap, eOp_ap, eUn_ap, settled_ap, settle, eVar_ap, eC_ap, sAsg_ap, gN_ap, gT_ap, gsNil_ap, gsCons_ap, cont, conts, Slot.data, blD, truD, Out.bind, Out.of, Out.toS, OutS.bind, OutS.of, assign, put, storable, freeze, freezes, frz1, aNil_ap, aCons_ap, eCB_ap, eTup_ap, eLst_ap, eDic_ap, sRet_ap, handOut, setOwn, slotD, ownL, ownD, intD, strD, sSetL_ap, gSetL_ap, sNext_ap, eCall_ap, callF, toArg, toArgs, onceEach, isSlot, back, backSlot, sPar_ap, sPar2_ap, eM1_ap, eMT_ap, eSl_ap, oNone_ap, oPart_ap, eBmL_ap, eBmD_ap, eDGet2_ap, sPut_ap, eSetd_ap, sRaise_ap, eChain_ap, eCBK_ap, srcV_ap, srcE_ap, srcZ_ap, List.findIdx?_cons, sm0, sm1, sm2, sm3, sm4, sm5, wipable, wipeE, gGtU_str, h]
theorem body_spec {n : Nat} {d : D} {call : Str} {calls words : List Str} {w3 : Slot} (hw3 : w3 = .par (sD words) ∨ w3 = .imm (sD words)) (hb : BagOk n d) (hn : n < 50000) (hc : ∀ z ∈ calls, nmS z = true) (hw : ∀ z ∈ words, nmS z = true) (hne : words ≠ []) (hcl : calls.length ≤ 1000) (hwl : words.length ≤ 1000) :
    ∃ (rs : List (List Str)) (d' : D), BodyS call rs ∧ rs.length ≤ 4 ∧ BagOk (n + 9) d' ∧ F__law_body [.par d, .imm (.str call), .par (sD calls), w3] = .ret (.dat (bdD rs)) [.par d', .imm (.str call), .par (sD calls), w3] := by
  obtain ⟨m, d1, hm, hb1, e1⟩ := take_k (m := 5) (mi := 5) rfl hb (by omega) (by omega) (by omega)
  have hlat := body_later (d := d) (call := call) (calls := calls) (w3 := w3) hcl
  generalize hL : calls.filter (fun z => ltS call z) = later at hlat
  have hlm : ∀ z ∈ later, nmS z = true ∧ ltS call z = true := fun z hz => by
    rw [← hL, List.mem_filter] at hz
    exact ⟨hc z hz.1, hz.2⟩
  have hll : later.length ≤ 1000 := by
    rw [← hL]
    exact Nat.le_trans (List.length_filter_le _ _) hcl
  have hnl := ne_nil (ps := later) fun z hz => okS_nm (hlm z hz).1
  have hlen := sD_len later
  have hlenw := sD_len words
  have key := sFor_inv (s := rngS 0 m) (g := gN 6) (F := Y2__law_body) (fs := srcR1 (aCons (settled (eCall 2 F__law_take (aCons (eVar 0) (aCons (eC (.int 5)) aNil)))) aNil))
    (env := [.par d, .imm (.str call), .par (sD calls), w3, .own (sD later), .own (.lst []), .no, .no, .no]) (e0 := [.par d1, .imm (.str call), .par (sD calls), w3, .own (sD later), .own (.lst []), .no, .no, .no])
    (I := fun i env => ∃ (rs : List (List Str)) (d' : D) (z6 z7 : Slot), BodyS call rs ∧ rs.length = i ∧ BagOk (n + 1 + 2 * i) d' ∧ Jk' z6 ∧ Jk' z7 ∧ env = [.par d', .imm (.str call), .par (sD calls), w3, .own (sD later), .own (.lst (rs.map wD)), z6, z7, .no])
    ?_ ⟨[], d1, .no, .no, (fun r hr => by cases hr), rfl, hb1, Jk'.no, Jk'.no, rfl⟩ (fun _ _ => rfl) ?_
  · obtain ⟨env', e, rs, d', z6, z7, h1, h2, h3, _, _, rfl⟩ := key
    change X2__law_body _ = _ at e
    have h2 : rs.length = m := h2
    have h3 : BagOk (n + 1 + 2 * m) d' := h3
    refine ⟨rs, d', h1, by omega, h3.mono (by omega), ?_⟩
    have ht : gTuple [.lst (rs.map wD)] = some (.dat (bdD rs)) := rfl
    generalize D.lst (rs.map wD) = R at e ht
    generalize bdD rs = B at ht ⊢
    generalize sD later = Lt at *
    generalize sD calls = C at *
    rcases hw3 with rfl | rfl <;> (generalize sD words = Wd at *; simp [F__law_body, B__law_body, funF, sSeq_ap, sIf_ap, bBl_ap, bTr_ap, bAnd_ap, bOr_ap, bNot_ap, eAnd_ap, eOr_ap, eNot_ap, eIf_ap, eOp_ap, eUn_ap, settled_ap, settle, eVar_ap, eC_ap, sAsg_ap, gN_ap, gT_ap, gsNil_ap, gsCons_ap, cont, conts, Slot.data, blD, truD, Out.bind, Out.of, Out.toS, OutS.bind, OutS.of, assign, put, storable, freeze, freezes, frz1, aNil_ap, aCons_ap, eCB_ap, eTup_ap, eLst_ap, eDic_ap, sRet_ap, handOut, setOwn, slotD, ownL, ownD, intD, strD, sSetL_ap, gSetL_ap, sNext_ap, eCall_ap, callF, toArg, toArgs, onceEach, isSlot, back, backSlot, sPar_ap, sPar2_ap, eM1_ap, eMT_ap, eSl_ap, oNone_ap, oPart_ap, eBmL_ap, eBmD_ap, eDGet2_ap, sPut_ap, eSetd_ap, sRaise_ap, eChain_ap, eCBK_ap, srcV_ap, srcE_ap, srcZ_ap, List.findIdx?_cons, sm0, sm1, sm2, sm3, sm4, sm5, hlat, e, ht])
  · refine srcR1_nat (n := m) (as := [.dat (.int m)]) ?_ rfl (by omega)
    generalize sD later = Lt
    generalize sD calls = C
    rcases hw3 with rfl | rfl <;> (generalize sD words = Wd; simp [funF, sSeq_ap, sIf_ap, bBl_ap, bTr_ap, bAnd_ap, bOr_ap, bNot_ap, eAnd_ap, eOr_ap, eNot_ap, eIf_ap, eOp_ap, eUn_ap, settled_ap, settle, eVar_ap, eC_ap, sAsg_ap, gN_ap, gT_ap, gsNil_ap, gsCons_ap, cont, conts, Slot.data, blD, truD, Out.bind, Out.of, Out.toS, OutS.bind, OutS.of, assign, put, storable, freeze, freezes, frz1, aNil_ap, aCons_ap, eCB_ap, eTup_ap, eLst_ap, eDic_ap, sRet_ap, handOut, setOwn, slotD, ownL, ownD, intD, strD, sSetL_ap, gSetL_ap, sNext_ap, eCall_ap, callF, toArg, toArgs, onceEach, isSlot, back, backSlot, sPar_ap, sPar2_ap, eM1_ap, eMT_ap, eSl_ap, oNone_ap, oPart_ap, eBmL_ap, eBmD_ap, eDGet2_ap, sPut_ap, eSetd_ap, sRaise_ap, eChain_ap, eCBK_ap, srcV_ap, srcE_ap, srcZ_ap, List.findIdx?_cons, sm0, sm1, sm2, sm3, sm4, sm5, e1])
  · rintro i env hi ⟨rs, d', z6, z7, h1, h2, h3, j6, j7, rfl⟩
    have hi : i < m := hi
    obtain ⟨r, d2, hr, hb2, e2⟩ := take_k (m := 5) (mi := 5) rfl h3 (by omega) (by omega) (by omega)
    have hsz : (rs.map wD).length < sizeLine := by
      rw [List.length_map]
      unfold sizeLine
      omega
    have hok : ∀ q, RowS call q → BodyS call (rs ++ [q]) := fun q hq x hx => by
      rcases List.mem_append.mp hx with z | z
      · exact h1 x z
      · rw [List.mem_singleton.mp z]; exact hq
    have happ : ∀ q, (rs ++ [q]).map wD = rs.map wD ++ [wD q] := fun q => by simp
    have fin : ∀ (q : List Str) (d3 : D), RowS call q → BagOk (n + 1 + 2 * (i + 1)) d3 → Y2__law_body [.par d', .imm (.str call), .par (sD calls), w3, .own (sD later), .own (.lst (rs.map wD)), .imm (.int (i : Int)), z7, .no] = .next [.par d3, .imm (.str call), .par (sD calls), w3, .own (sD later), .own (.lst (rs.map wD ++ [wD q])), .imm (.int (i : Int)), .imm (.int (r : Int)), .no] →
        ∃ dd env', (rngS 0 m).it [.par d', .imm (.str call), .par (sD calls), w3, .own (sD later), .own (.lst (rs.map wD)), z6, z7, .no] i = some dd ∧ (gN 6 (.dat dd) [.par d', .imm (.str call), .par (sD calls), w3, .own (sD later), .own (.lst (rs.map wD)), z6, z7, .no]).bind Y2__law_body = .next env' ∧
          ∃ (rs : List (List Str)) (d' : D) (z6 z7 : Slot), BodyS call rs ∧ rs.length = i + 1 ∧ BagOk (n + 1 + 2 * (i + 1)) d' ∧ Jk' z6 ∧ Jk' z7 ∧ env' = [.par d', .imm (.str call), .par (sD calls), w3, .own (sD later), .own (.lst (rs.map wD)), z6, z7, .no] := by
      intro q d3 hq hb3 hy
      refine ⟨.int (0 + (i : Nat)), _, rfl, ?_, rs ++ [q], d3, .imm (.int (i : Int)), .imm (.int (r : Int)), hok q hq, by simp [h2], hb3, Jk'.im _, Jk'.im _, rfl⟩
      rw [happ, Int.zero_add, ← hy]
      rcases hw3 with rfl | rfl <;> rcases j6 with rfl | ⟨q6, rfl⟩ <;> simp [gN_ap, assign, put, storable, OutS.of]
    by_cases h2r : r < 2
    · refine fin ["next"] d2 (.inl rfl) (hb2.mono (by omega)) ?_
      have hc2 : (r : Int) < 2 := by omega
      have hd : D.tup [.str "next"] = wD ["next"] := rfl
      generalize rs.map wD = acc at hsz ⊢
      generalize wD [("next" : Str)] = Wn at hd ⊢
      generalize sD later = Lt
      generalize sD calls = C
      rcases hw3 with rfl | rfl <;> (generalize sD words = Wd; rcases j7 with rfl | ⟨q7, rfl⟩ <;> simp [Y2__law_body, funF, sSeq_ap, sIf_ap, bBl_ap, bTr_ap, bAnd_ap, bOr_ap, bNot_ap, eAnd_ap, eOr_ap, eNot_ap, eIf_ap, eOp_ap, eUn_ap, settled_ap, settle, eVar_ap, eC_ap, sAsg_ap, gN_ap, gT_ap, gsNil_ap, gsCons_ap, cont, conts, Slot.data, blD, truD, Out.bind, Out.of, Out.toS, OutS.bind, OutS.of, assign, put, storable, freeze, freezes, frz1, aNil_ap, aCons_ap, eCB_ap, eTup_ap, eLst_ap, eDic_ap, sRet_ap, handOut, setOwn, slotD, ownL, ownD, intD, strD, sSetL_ap, gSetL_ap, sNext_ap, eCall_ap, callF, toArg, toArgs, onceEach, isSlot, back, backSlot, sPar_ap, sPar2_ap, eM1_ap, eMT_ap, eSl_ap, oNone_ap, oPart_ap, eBmL_ap, eBmD_ap, eDGet2_ap, sPut_ap, eSetd_ap, sRaise_ap, eChain_ap, eCBK_ap, srcV_ap, srcE_ap, srcZ_ap, List.findIdx?_cons, sm0, sm1, sm2, sm3, sm4, sm5, e2, gB, hc2, hd, gAppend, hsz])
    · have hc2 : ¬ (r : Int) < 2 := by omega
      by_cases h3r : r = 2 ∧ later ≠ []
      · obtain ⟨h3r, hne2⟩ := h3r
        have hpos : 0 < later.length := List.length_pos_iff.mpr hne2
        obtain ⟨k, d3, hk, hb3, e3⟩ := take_nat hb2 (by omega) (m := later.length) hpos (by omega)
        have hq := List.getElem?_eq_getElem hk
        have hmem := List.getElem_mem hk
        generalize later[k] = q at hq hmem
        refine fin ["call", q] d3 (.inr (.inr ⟨q, (hlm q hmem).1, (hlm q hmem).2, rfl⟩)) (hb3.mono (by omega)) ?_
        have hix := sD_ix hq
        have hd : D.tup [.str "call", .str q] = wD [("call" : Str), q] := rfl
        have hie : later.isEmpty = false := by
          cases later with
          | nil => exact absurd rfl hne2
          | cons a t => rfl
        rw [hie] at hnl
        generalize rs.map wD = acc at hsz ⊢
        generalize wD [("call" : Str), q] = Wn at hd ⊢
        generalize sD later = Lt at *
        generalize sD calls = C
        rcases hw3 with rfl | rfl <;> (generalize sD words = Wd at *; rcases j7 with rfl | ⟨q7, rfl⟩ <;> simp [Y2__law_body, funF, sSeq_ap, sIf_ap, bBl_ap, bTr_ap, bAnd_ap, bOr_ap, bNot_ap, eAnd_ap, eOr_ap, eNot_ap, eIf_ap, eOp_ap, eUn_ap, settled_ap, settle, eVar_ap, eC_ap, sAsg_ap, gN_ap, gT_ap, gsNil_ap, gsCons_ap, cont, conts, Slot.data, blD, truD, Out.bind, Out.of, Out.toS, OutS.bind, OutS.of, assign, put, storable, freeze, freezes, frz1, aNil_ap, aCons_ap, eCB_ap, eTup_ap, eLst_ap, eDic_ap, sRet_ap, handOut, setOwn, slotD, ownL, ownD, intD, strD, sSetL_ap, gSetL_ap, sNext_ap, eCall_ap, callF, toArg, toArgs, onceEach, isSlot, back, backSlot, sPar_ap, sPar2_ap, eM1_ap, eMT_ap, eSl_ap, oNone_ap, oPart_ap, eBmL_ap, eBmD_ap, eDGet2_ap, sPut_ap, eSetd_ap, sRaise_ap, eChain_ap, eCBK_ap, srcV_ap, srcE_ap, srcZ_ap, List.findIdx?_cons, sm0, sm1, sm2, sm3, sm4, sm5, e2, gB, h3r, gEqU_int, hnl, hlen, e3, hix, hd, gAppend, hsz])
      · have hpos : 0 < words.length := List.length_pos_iff.mpr hne
        obtain ⟨k, d3, hk, hb3, e3⟩ := take_nat hb2 (by omega) (m := words.length) hpos (by omega)
        have hq := List.getElem?_eq_getElem hk
        have hmem := List.getElem_mem hk
        generalize words[k] = q at hq hmem
        refine fin ["say", q] d3 (.inr (.inl ⟨q, hw q hmem, rfl⟩)) (hb3.mono (by omega)) ?_
        have hix := sD_ix hq
        have hd : D.tup [.str "say", .str q] = wD [("say" : Str), q] := rfl
        generalize rs.map wD = acc at hsz ⊢
        generalize wD [("say" : Str), q] = Wn at hd ⊢
        by_cases h2e : r = 2
        · have hle : later = [] := by
            cases later with
            | nil => rfl
            | cons a t => exact absurd ⟨h2e, by simp⟩ h3r
          have hie : later.isEmpty = true := by rw [hle]; rfl
          rw [hie] at hnl
          generalize sD later = Lt at *
          generalize sD calls = C
          rcases hw3 with rfl | rfl <;> (generalize sD words = Wd at *; rcases j7 with rfl | ⟨q7, rfl⟩ <;> simp [Y2__law_body, funF, sSeq_ap, sIf_ap, bBl_ap, bTr_ap, bAnd_ap, bOr_ap, bNot_ap, eAnd_ap, eOr_ap, eNot_ap, eIf_ap, eOp_ap, eUn_ap, settled_ap, settle, eVar_ap, eC_ap, sAsg_ap, gN_ap, gT_ap, gsNil_ap, gsCons_ap, cont, conts, Slot.data, blD, truD, Out.bind, Out.of, Out.toS, OutS.bind, OutS.of, assign, put, storable, freeze, freezes, frz1, aNil_ap, aCons_ap, eCB_ap, eTup_ap, eLst_ap, eDic_ap, sRet_ap, handOut, setOwn, slotD, ownL, ownD, intD, strD, sSetL_ap, gSetL_ap, sNext_ap, eCall_ap, callF, toArg, toArgs, onceEach, isSlot, back, backSlot, sPar_ap, sPar2_ap, eM1_ap, eMT_ap, eSl_ap, oNone_ap, oPart_ap, eBmL_ap, eBmD_ap, eDGet2_ap, sPut_ap, eSetd_ap, sRaise_ap, eChain_ap, eCBK_ap, srcV_ap, srcE_ap, srcZ_ap, List.findIdx?_cons, sm0, sm1, sm2, sm3, sm4, sm5, e2, gB, h2e, gEqU_int, hnl, hlenw, e3, hix, hd, gAppend, hsz])
        · have h2e : ¬ (r : Int) = 2 := by omega
          generalize sD later = Lt at *
          generalize sD calls = C
          rcases hw3 with rfl | rfl <;> (generalize sD words = Wd at *; rcases j7 with rfl | ⟨q7, rfl⟩ <;> simp [Y2__law_body, funF, sSeq_ap, sIf_ap, bBl_ap, bTr_ap, bAnd_ap, bOr_ap, bNot_ap, eAnd_ap, eOr_ap, eNot_ap, eIf_ap, eOp_ap, eUn_ap, settled_ap, settle, eVar_ap, eC_ap, sAsg_ap, gN_ap, gT_ap, gsNil_ap, gsCons_ap, cont, conts, Slot.data, blD, truD, Out.bind, Out.of, Out.toS, OutS.bind, OutS.of, assign, put, storable, freeze, freezes, frz1, aNil_ap, aCons_ap, eCB_ap, eTup_ap, eLst_ap, eDic_ap, sRet_ap, handOut, setOwn, slotD, ownL, ownD, intD, strD, sSetL_ap, gSetL_ap, sNext_ap, eCall_ap, callF, toArg, toArgs, onceEach, isSlot, back, backSlot, sPar_ap, sPar2_ap, eM1_ap, eMT_ap, eSl_ap, oNone_ap, oPart_ap, eBmL_ap, eBmD_ap, eDGet2_ap, sPut_ap, eSetd_ap, sRaise_ap, eChain_ap, eCBK_ap, srcV_ap, srcE_ap, srcZ_ap, List.findIdx?_cons, sm0, sm1, sm2, sm3, sm4, sm5, e2, gB, hc2, h2e, gEqU_int, hlenw, e3, hix, hd, gAppend, hsz])
def odd : List Str := ["kind", "body", "say", "next", "call", "none", "add", "drop", "undo", "make", "ok"]
theorem odd_nm : ∀ z ∈ odd, nmS z = true := by decide +kernel
/-- names, perhaps odd ones: the list of the caller is handed back, or a new one is made -/
theorem odd_spec {n : Nat} {d : D} {ns : List Str} (hb : BagOk n d) (hn : n < 50000) (hns : ∀ z ∈ ns, nmS z = true) (hl : ns.length ≤ 11) :
    ∃ (ms : List Str) (d' : D) (ev : EV), (ev = .dat (sD ms) ∨ ev = .new (sD ms)) ∧ ms.length = ns.length ∧ (∀ z ∈ ms, nmS z = true) ∧ BagOk (n + 2) d' ∧ F__law_odd_names [.par d, .imm (sD ns)] = .ret ev [.par d', .imm (sD ns)] := by
  obtain ⟨r, d1, hr, hb1, e1⟩ := take_k (m := 3) (mi := 3) rfl hb (by omega) (by omega) (by omega)
  have hodd : D.lst [.str "kind", .str "body", .str "say", .str "next", .str "call", .str "none", .str "add", .str "drop", .str "undo", .str "make", .str "ok"] = sD odd := rfl
  have hsm : small 11 = true := by decide
  by_cases h0 : 0 < r
  · refine ⟨ns, d1, .dat (sD ns), .inl rfl, rfl, hns, hb1.mono (by omega), ?_⟩
    have h0' : (0 : Int) < r := by omega
    generalize sD ns = N
    simp [F__law_odd_names, B__law_odd_names, funF, sSeq_ap, sIf_ap, bBl_ap, bTr_ap, bAnd_ap, bOr_ap, bNot_ap, eAnd_ap, eOr_ap, eNot_ap, eIf_ap, eOp_ap, eUn_ap, settled_ap, settle, eVar_ap, eC_ap, sAsg_ap, gN_ap, gT_ap, gsNil_ap, gsCons_ap, cont, conts, Slot.data, blD, truD, Out.bind, Out.of, Out.toS, OutS.bind, OutS.of, assign, put, storable, freeze, freezes, frz1, aNil_ap, aCons_ap, eCB_ap, eTup_ap, eLst_ap, eDic_ap, sRet_ap, handOut, setOwn, slotD, ownL, ownD, intD, strD, sSetL_ap, gSetL_ap, sNext_ap, eCall_ap, callF, toArg, toArgs, onceEach, isSlot, back, backSlot, sPar_ap, sPar2_ap, eM1_ap, eMT_ap, eSl_ap, oNone_ap, oPart_ap, eBmL_ap, eBmD_ap, eDGet2_ap, sPut_ap, eSetd_ap, sRaise_ap, eChain_ap, eCBK_ap, srcV_ap, srcE_ap, srcZ_ap, List.findIdx?_cons, sm0, sm1, sm2, sm3, sm4, sm5, hsm, hodd, e1, gGtU_int, h0, h0']
  · obtain ⟨k, d2, hk, hb2, e2⟩ := take_k (m := 11) (mi := 11) rfl hb1 (by omega) (by omega) (by omega)
    have h0' : ¬ (0 : Int) < r := by omega
    have c1 : gSl (sD odd) (some (k : Int)) none = some (.new (sD (odd.drop k))) := by
      show some (EV.new (.lst (cutD _ (some (k : Int)) none))) = _
      rw [cutD_from, ← List.map_drop]
      rfl
    have c2 : gSl (sD odd) none (some (k : Int)) = some (.new (sD (odd.take k))) := by
      show some (EV.new (.lst (cutD _ none (some (k : Int))))) = _
      rw [cutD_to, ← List.map_take]
      rfl
    have c3 : gAddU (sD (odd.drop k)) (sD (odd.take k)) = some (.new (sD (odd.drop k ++ odd.take k))) := by
      show (if small (((odd.drop k).map D.str).length + ((odd.take k).map D.str).length) then some (EV.new (.lst ((odd.drop k).map D.str ++ (odd.take k).map D.str))) else none) = _
      have hs : small (((odd.drop k).map D.str).length + ((odd.take k).map D.str).length) = true := small_of (by
        have : odd.length = 11 := rfl
        simp
        omega)
      rw [if_pos hs, ← List.map_append]
      rfl
    have c4 : gSl (sD (odd.drop k ++ odd.take k)) none (some (ns.length : Int)) = some (.new (sD ((odd.drop k ++ odd.take k).take ns.length))) := by
      show some (EV.new (.lst (cutD _ none (some (ns.length : Int))))) = _
      rw [cutD_to, ← List.map_take]
      rfl
    have hlen := sD_len ns
    refine ⟨(odd.drop k ++ odd.take k).take ns.length, d2, .new (sD ((odd.drop k ++ odd.take k).take ns.length)), .inr rfl, ?_, fun z hz => ?_, hb2, ?_⟩
    · have : odd.length = 11 := rfl
      simp
      omega
    · have hz := List.mem_of_mem_take hz
      rcases List.mem_append.mp hz with h | h
      · exact odd_nm z (List.mem_of_mem_drop h)
      · exact odd_nm z (List.mem_of_mem_take h)
    · generalize sD ((odd.drop k ++ odd.take k).take ns.length) = A4 at c4 ⊢
      generalize sD (odd.drop k ++ odd.take k) = A3 at c3 c4
      generalize sD (odd.drop k) = A1 at c1 c3
      generalize sD (odd.take k) = A2 at c2 c3
      generalize sD odd = O at hodd c1 c2
      generalize sD ns = N at hlen ⊢
      simp [F__law_odd_names, B__law_odd_names, funF, sSeq_ap, sIf_ap, bBl_ap, bTr_ap, bAnd_ap, bOr_ap, bNot_ap, eAnd_ap, eOr_ap, eNot_ap, eIf_ap, eOp_ap, eUn_ap, settled_ap, settle, eVar_ap, eC_ap, sAsg_ap, gN_ap, gT_ap, gsNil_ap, gsCons_ap, cont, conts, Slot.data, blD, truD, Out.bind, Out.of, Out.toS, OutS.bind, OutS.of, assign, put, storable, freeze, freezes, frz1, aNil_ap, aCons_ap, eCB_ap, eTup_ap, eLst_ap, eDic_ap, sRet_ap, handOut, setOwn, slotD, ownL, ownD, intD, strD, sSetL_ap, gSetL_ap, sNext_ap, eCall_ap, callF, toArg, toArgs, onceEach, isSlot, back, backSlot, sPar_ap, sPar2_ap, eM1_ap, eMT_ap, eSl_ap, oNone_ap, oPart_ap, eBmL_ap, eBmD_ap, eDGet2_ap, sPut_ap, eSetd_ap, sRaise_ap, eChain_ap, eCBK_ap, srcV_ap, srcE_ap, srcZ_ap, List.findIdx?_cons, sm0, sm1, sm2, sm3, sm4, sm5, hsm, hodd, e1, gGtU_int, h0, h0', e2, c1, c2, c3, c4, hlen]
end DL.K46

namespace DL.K46
open PySem L2 PySem.Spec PyProof.Rows
theorem sign_ix {k : Nat} (h : k < 9) : ∃ c, c < 128 ∧ gIx (.str " ,-ansyA\n") (.int (k : Int)) = some (.dat (.str ⟨#[c]⟩)) := by
  have hl : (" ,-ansyA\n" : Str).cps.toList = [32, 44, 45, 97, 110, 115, 121, 65, 10] := by decide +kernel
  have hs : small (" ,-ansyA\n" : Str).length = true := by decide +kernel
  have hk : k < [32, 44, 45, 97, 110, 115, 121, 65, 10].length := h
  refine ⟨[32, 44, 45, 97, 110, 115, 121, 65, 10][k], ?_, ?_⟩
  · have : ∀ c ∈ [32, 44, 45, 97, 110, 115, 121, 65, 10], c < 128 := by decide
    exact this _ (List.getElem_mem hk)
  · show (if small (" ,-ansyA\n" : Str).length then (atI (" ,-ansyA\n" : Str).cps.toList (k : Int)).map fun c => EV.dat (.str ⟨#[c]⟩) else none) = _
    rw [if_pos hs, hl, DL.atI_get (List.getElem?_eq_getElem hk)]
    rfl
theorem okS_sign {c : Nat} (h : c < 128) : okS ⟨#[c]⟩ := fun z hz => by
  have : z = c := by simpa using hz
  omega
theorem mem_set2 {α : Type} {l : List α} {i j : Nat} {a b z : α} (h : z ∈ (l.set i a).set j b) : z ∈ l ∨ z = a ∨ z = b := by
  rcases List.mem_or_eq_of_mem_set h with h | h
  · rcases List.mem_or_eq_of_mem_set h with h | h
    · exact .inl h
    · exact .inr (.inl h)
  · exact .inr (.inr h)
theorem sD_cut (ps : List Str) (lo hi : Option Int) {qs : List Str} (h : cutD (ps.map D.str) lo hi = qs.map D.str) : gSl (sD ps) lo hi = some (.new (sD qs)) := by
  show some (EV.new (.lst (cutD _ lo hi))) = _
  rw [h]
  rfl
theorem sD_add {ps qs : List Str} (h : ps.length + qs.length ≤ 16777216) : gAddU (sD ps) (sD qs) = some (.new (sD (ps ++ qs))) := by
  show (if small ((ps.map D.str).length + (qs.map D.str).length) then some (EV.new (.lst (ps.map D.str ++ qs.map D.str))) else none) = _
  have hs : small ((ps.map D.str).length + (qs.map D.str).length) = true := small_of (by simpa using h)
  rw [if_pos hs, ← List.map_append]
  rfl
theorem sD_mul {ps : List Str} {k : Nat} (h : ps.length * k ≤ 16777216) (hk : k < 1000) : gMulU (sD ps) (.int (k : Int)) = some (.new (sD (List.replicate k ps).flatten)) := by
  have h1 : in63 (k : Int) = true := decide_eq_true (by omega)
  have h2 : small ((ps.map D.str).length * (k : Int).toNat) = true := small_of (by simpa using h)
  show (if (in63 (k : Int) && small ((ps.map D.str).length * (k : Int).toNat)) = true then some (EV.new (.lst (List.replicate (k : Int).toNat (ps.map D.str)).flatten)) else none) = _
  rw [h1, h2, Bool.and_self, if_pos rfl, Int.toNat_natCast]
  have : (List.replicate k (ps.map D.str)).flatten = (List.replicate k ps).flatten.map D.str := by
    rw [List.map_flatten, List.map_replicate]
  rw [this]
  rfl
/-- a bent text is a text -/
theorem bent_spec {n : Nat} {d : D} {x : Str} (hb : BagOk n d) (hn : n < 50000) (hx : x.length ≤ 200) (hok : okS x) :
    ∃ (y : Str) (d' : D), y.length ≤ 100000 ∧ okS y ∧ BagOk (n + 5) d' ∧ F__law_bent [.par d, .imm (.str x)] = .ret (.dat (.str y)) [.par d', .imm (.str x)] := by
  obtain ⟨way, d1, hw, hb1, e1⟩ := take_k (m := 6) (mi := 6) rfl hb (by omega) (by omega) (by omega)
  obtain ⟨at_, d2, ha, hb2, e2⟩ := take_k (m := x.length + 1) (mi := (x.length : Int) + 1) (by omega) hb1 (by omega) (by omega) (by omega)
  have hlen := gLenU_str (x := x) (small_of (by omega))
  by_cases h3 : way < 3
  · obtain ⟨k, d3, hk, hb3, e3⟩ := take_k (m := 9) (mi := 9) rfl hb2 (by omega) (by omega) (by omega)
    obtain ⟨c, hc, e4⟩ := sign_ix hk
    have c1 := gSl_str none (some (at_ : Int)) (small_of (a := x.length) (by omega))
    have c2 := gSl_str (some (at_ : Int)) none (small_of (a := x.length) (by omega))
    have c3 := gSl_str (some ((at_ : Int) + 1)) none (small_of (a := x.length) (by omega))
    have l1 := cutS_len x none (some (at_ : Int))
    have l2 := cutS_len x (some (at_ : Int)) none
    have l3 := cutS_len x (some ((at_ : Int) + 1)) none
    have o1 := okS_cut hok none (some (at_ : Int))
    have o2 := okS_cut hok (some (at_ : Int)) none
    have o3 := okS_cut hok (some ((at_ : Int) + 1)) none
    have oc := okS_sign hc
    have lc : (⟨#[c]⟩ : Str).length = 1 := rfl
    generalize cutS x none (some (at_ : Int)) = A at *
    generalize cutS x (some (at_ : Int)) none = B at *
    generalize cutS x (some ((at_ : Int) + 1)) none = C at *
    generalize (⟨#[c]⟩ : Str) = Z at *
    have p1 := gAddU_str (x := A) (y := Z) (small_of (by omega))
    have p2 := gAddU_str (x := A ++ Z) (y := B) (small_of (by rw [Str.length_append]; omega))
    have p3 := gAddU_str (x := A) (y := C) (small_of (by omega))
    have p4 := gAddU_str (x := A ++ Z) (y := C) (small_of (by rw [Str.length_append]; omega))
    have hpick : ∃ y : Str, (y = A ++ Z ++ B ∨ y = A ++ C ∨ y = A ++ Z ++ C) ∧ gIx (.tup [.str (A ++ Z ++ B), .str (A ++ C), .str (A ++ Z ++ C)]) (.int (way : Int)) = some (.dat (.str y)) := by
      match way, h3 with
      | 0, _ => exact ⟨_, .inl rfl, gIx_tup (n := 0) rfl⟩
      | 1, _ => exact ⟨_, .inr (.inl rfl), gIx_tup (n := 1) rfl⟩
      | 2, _ => exact ⟨_, .inr (.inr rfl), gIx_tup (n := 2) rfl⟩
    obtain ⟨y, hy, e5⟩ := hpick
    refine ⟨y, d3, ?_, ?_, hb3.mono (by omega), ?_⟩
    · rcases hy with rfl | rfl | rfl <;> simp only [Str.length_append] <;> omega
    · rcases hy with rfl | rfl | rfl
      · exact okS_app (okS_app o1 oc) o2
      · exact okS_app o1 o3
      · exact okS_app (okS_app o1 oc) o3
    · have h3' : (way : Int) < 3 := by omega
      simp [F__law_bent, B__law_bent, funF, sSeq_ap, sIf_ap, bBl_ap, bTr_ap, bAnd_ap, bOr_ap, bNot_ap, eAnd_ap, eOr_ap, eNot_ap, eIf_ap, eOp_ap, eUn_ap, settled_ap, settle, eVar_ap, eC_ap, sAsg_ap, gN_ap, gT_ap, gsNil_ap, gsCons_ap, cont, conts, Slot.data, blD, truD, Out.bind, Out.of, Out.toS, OutS.bind, OutS.of, assign, put, storable, freeze, freezes, frz1, aNil_ap, aCons_ap, eCB_ap, eTup_ap, eLst_ap, eDic_ap, sRet_ap, handOut, setOwn, slotD, ownL, ownD, intD, strD, sSetL_ap, gSetL_ap, sNext_ap, eCall_ap, callF, toArg, toArgs, onceEach, isSlot, back, backSlot, sPar_ap, sPar2_ap, eM1_ap, eMT_ap, eSl_ap, oNone_ap, oPart_ap, eBmL_ap, eBmD_ap, eDGet2_ap, sPut_ap, eSetd_ap, sRaise_ap, eChain_ap, eCBK_ap, srcV_ap, srcE_ap, srcZ_ap, List.findIdx?_cons, sm0, sm1, sm2, sm3, sm4, sm5, e1, e2, e3, e4, e5, hlen, gB, h3', c1, c2, c3, p1, p2, p3, p4, gAddU_int]
  · have hgap : ∃ g : Str, (g = ", " ∨ g = " ") ∧ gIx (.tup [.str ", ", .str " ", .str ", "]) (.int ((way : Int) - 3)) = some (.dat (.str g)) := by
      match way, h3, hw with
      | 3, _, _ => exact ⟨_, .inl rfl, gIx_tup (n := 0) rfl⟩
      | 4, _, _ => exact ⟨_, .inr rfl, gIx_tup (n := 1) rfl⟩
      | 5, _, _ => exact ⟨_, .inl rfl, gIx_tup (n := 2) rfl⟩
    obtain ⟨g, hg, e3⟩ := hgap
    have hgl : (g.length == 0) = false ∧ g.length ≤ 2 ∧ okS g := by
      rcases hg with rfl | rfl
      · exact ⟨by decide +kernel, by decide +kernel, by unfold okS; decide +kernel⟩
      · exact ⟨by decide +kernel, by decide +kernel, by unfold okS; decide +kernel⟩
    have hs := gSplit_str (x := x) (y := g) hgl.1 (by unfold sizeLine; omega)
    have hpl := parts_len x g
    have hpp : ∀ p ∈ Txt.split x g, p.length ≤ 200 ∧ okS p := fun p hp => ⟨by have := part_len hp; omega, okS_part hok hp⟩
    have hpn := split_ne x g
    generalize hps : Txt.split x g = ps at hs hpl hpp hpn
    have hs : gSplit (.str x) (.str g) = some (.new (sD ps)) := hs
    have hpos : 0 < ps.length := List.length_pos_iff.mpr hpn
    obtain ⟨i, d3, hi, hb3, e4⟩ := take_nat hb2 (by omega) (m := ps.length) hpos (by omega)
    obtain ⟨j, d4, hj, hb4, e5⟩ := take_nat hb3 (by omega) (m := ps.length) hpos (by omega)
    obtain ⟨k, d5, hk, hb5, e6⟩ := take_k (m := 3) (mi := 3) rfl hb4 (by omega) (by omega) (by omega)
    have hlp := sD_len ps
    have qi := List.getElem?_eq_getElem hi
    have qj := List.getElem?_eq_getElem hj
    have mi := List.getElem_mem hi
    have mj := List.getElem_mem hj
    generalize ps[i] = p at qi mi
    generalize ps[j] = q at qj mj
    have xi := sD_ix qi
    have xj := sD_ix qj
    have ni : ixN (ps.map D.str).length (i : Int) = some i := by
      unfold ixN
      rw [if_pos (by omega), if_pos (by simpa using hi), Int.toNat_natCast]
    have nj : ixN (ps.map D.str).length (j : Int) = some j := by
      unfold ixN
      rw [if_pos (by omega), if_pos (by simpa using hj), Int.toNat_natCast]
    generalize hqs : (ps.set i q).set j p = qs
    have hset : ((ps.map D.str).set i (.str q)).set j (.str p) = qs.map D.str := by
      rw [← hqs, List.map_set, List.map_set]
    have hqp : ∀ z ∈ qs, z.length ≤ 200 ∧ okS z := fun z hz => by
      rw [← hqs] at hz
      rcases mem_set2 hz with h | h | h
      · exact hpp z h
      · rw [h]; exact hpp q mj
      · rw [h]; exact hpp p mi
    have hql : qs.length = ps.length := by rw [← hqs]; simp
    have c1 : gSl (sD qs) none (some (i : Int)) = some (.new (sD (qs.take i))) := sD_cut qs _ _ (by rw [cutD_to, List.map_take])
    have c2 : gSl (sD qs) (some (i : Int)) (some ((i : Int) + 1)) = some (.new (sD ((qs.drop i).take 1))) := sD_cut qs _ _ (by
      have := cutD_mid (qs.map D.str) i (i + 1)
      rw [show ((i + 1 : Nat) : Int) = (i : Int) + 1 from rfl, show i + 1 - i = 1 by omega] at this
      rw [this, List.map_take, List.map_drop])
    have c3 : gSl (sD qs) (some ((i : Int) + 1)) none = some (.new (sD (qs.drop (i + 1)))) := sD_cut qs _ _ (by
      have := cutD_from (qs.map D.str) (i + 1)
      rw [show ((i + 1 : Nat) : Int) = (i : Int) + 1 from rfl] at this
      rw [this, List.map_drop])
    have c4 := sD_mul (ps := (qs.drop i).take 1) (k := k) (by
      have h1 : ((qs.drop i).take 1).length ≤ 1 := by simp; omega
      have := Nat.mul_le_mul h1 (show k ≤ 3 by omega)
      omega) (by omega)
    generalize hms : (List.replicate k ((qs.drop i).take 1)).flatten = ms at c4
    have hmm : ∀ z ∈ ms, z ∈ qs := fun z hz => by
      rw [← hms] at hz
      simp only [List.mem_flatten, List.mem_replicate] at hz
      obtain ⟨l, ⟨_, rfl⟩, h⟩ := hz
      exact List.mem_of_mem_drop (List.mem_of_mem_take h)
    have hml : ms.length ≤ 3 := by
      have h1 : ((qs.drop i).take 1).length ≤ 1 := by simp; omega
      rw [← hms]
      match k, hk with
      | 0, _ => simp
      | 1, _ => simp; omega
      | 2, _ => simp; omega
    have hl1 : (qs.take i).length ≤ 202 := by simp; omega
    have hl2 : (qs.drop (i + 1)).length ≤ 202 := by simp; omega
    have c5 := sD_add (ps := qs.take i) (qs := ms) (by omega)
    have c6 := sD_add (ps := qs.take i ++ ms) (qs := qs.drop (i + 1)) (by simp only [List.length_append]; omega)
    generalize hws : qs.take i ++ ms ++ qs.drop (i + 1) = ws at c6
    have hwp : ∀ z ∈ ws, z.length ≤ 200 ∧ okS z := fun z hz => by
      rw [← hws] at hz
      rcases List.mem_append.mp hz with h | h
      · rcases List.mem_append.mp h with h | h
        · exact hqp z (List.mem_of_mem_take h)
        · exact hqp z (hmm z h)
      · exact hqp z (List.mem_of_mem_drop h)
    have hwl : ws.length ≤ 407 := by
      rw [← hws]
      simp only [List.length_append]
      omega
    have hsum := sum_le fun z hz => (hwp z hz).1
    have hmul : ws.length * g.length ≤ 814 := by
      have := Nat.mul_le_mul hwl hgl.2.1
      omega
    have hj : gJoin (.str g) (sD ws) = some (.dat (.str (Str.join g ws))) := gJoin_str (by omega)
    refine ⟨Str.join g ws, d5, ?_, okS_join hgl.2.2 fun z hz => (hwp z hz).2, hb5, ?_⟩
    · have := StrLaws.join_length_le g ws
      omega
    · have h3' : ¬ (way : Int) < 3 := by omega
      have hps2 : sD ps = .lst (ps.map D.str) := rfl
      have hqs2 : D.lst (qs.map D.str) = sD qs := rfl
      generalize Str.join g ws = J at hj ⊢
      generalize sD ws = W at *
      generalize sD (qs.take i ++ ms) = W1 at *
      generalize sD (qs.take i) = W2 at *
      generalize sD ms = W3 at *
      generalize sD ((qs.drop i).take 1) = W4 at *
      generalize sD (qs.drop (i + 1)) = W5 at *
      rw [hps2] at hs hlp xi xj
      generalize ps.map D.str = P at *
      rw [← hqs2] at c1 c2 c3
      generalize qs.map D.str = Q' at *
      have s1 : gI (fun i j => i - j) (.int (way : Int)) (.int 3) = some (.dat (.int ((way : Int) - 3))) := rfl
      simp [F__law_bent, B__law_bent, funF, sSeq_ap, sIf_ap, bBl_ap, bTr_ap, bAnd_ap, bOr_ap, bNot_ap, eAnd_ap, eOr_ap, eNot_ap, eIf_ap, eOp_ap, eUn_ap, settled_ap, settle, eVar_ap, eC_ap, sAsg_ap, gN_ap, gT_ap, gsNil_ap, gsCons_ap, cont, conts, Slot.data, blD, truD, Out.bind, Out.of, Out.toS, OutS.bind, OutS.of, assign, put, storable, freeze, freezes, frz1, aNil_ap, aCons_ap, eCB_ap, eTup_ap, eLst_ap, eDic_ap, sRet_ap, handOut, setOwn, slotD, ownL, ownD, intD, strD, sSetL_ap, gSetL_ap, sNext_ap, eCall_ap, callF, toArg, toArgs, onceEach, isSlot, back, backSlot, sPar_ap, sPar2_ap, eM1_ap, eMT_ap, eSl_ap, oNone_ap, oPart_ap, eBmL_ap, eBmD_ap, eDGet2_ap, sPut_ap, eSetd_ap, sRaise_ap, eChain_ap, eCBK_ap, srcV_ap, srcE_ap, srcZ_ap, List.findIdx?_cons, sm0, sm1, sm2, sm3, sm4, sm5, e1, e2, hlen, gB, h3', s1, e3, hs, hlp, e4, e5, xi, xj, gT_ap, gSetL_ap, ni, nj, hset, c1, c2, c3, e6, c4, c5, c6, hj, gAddU_int]
end DL.K46

namespace DL.K46
open PySem L2 PySem.Spec PyProof.Rows
def notS (d : D) : Prop := gIsi [d, .any (.ty "str")] = some (.dat (.bl false))
def Th (n : Nat) (d : D) : Prop := (∃ x, d = .str x ∧ x.length ≤ n ∧ okS x) ∨ notS d
theorem Th.mono {n m : Nat} {d : D} (h : Th n d) (hm : n ≤ m) : Th m d := by
  rcases h with ⟨x, h1, h2, h3⟩ | h
  · exact .inl ⟨x, h1, by omega, h3⟩
  · exact .inr h
theorem okS_rb {call x : Str} {rs : List (List Str)} (hx : okS x) (h : rb call x = .ok rs) : ∀ r ∈ rs, ∀ w ∈ r, okS w := by
  unfold rb at h
  split at h
  · cases h
    intro r hr
    cases hr
  · split at h
    · cases h
    · split at h
      · cases h
      · cases h
        intro r hr w hw
        obtain ⟨p, hp, rfl⟩ := List.mem_map.mp hr
        exact okS_part (okS_part hx hp) hw
theorem gd_rb {call x : Str} (hx : okS x) : gd (rbD call x) = true ∧ dep (rbD call x) ≤ 64 := by
  unfold rbD
  cases h : rb call x with
  | error k => exact ⟨by simp [gd], by simp [dep]⟩
  | ok rs =>
    have hr := okS_rb hx h
    constructor
    · rw [gd]
      exact gds_map fun r hr' => (gd_wD (hr r hr')).1
    · rw [dep]
      have := deps_map (f := wD) (n := 1) (l := rs) fun r hr' => (gd_wD (hr r hr')).2
      omega
theorem rb_notbool {call x : Str} : gIsi [rbD call x, .any (.ty "bool")] = some (.dat (.bl false)) := by
  unfold rbD
  cases rb call x with
  | error k => exact isi_int_bool _
  | ok rs => exact isi_tup_bool _
/-- one thing, looked at -/
theorem check_turn {call : Str} {d : D} (h : Th 100000 d) {a0 a1 a2 a3 a5 a6 a7 a8 a9 a10 z12 z13 : Slot} (j12 : Jk' z12) (j13 : Jk' z13) :
    ∃ r, Y2_law [a0, a1, a2, a3, .imm (.str call), a5, a6, a7, a8, a9, a10, .imm d, z12, z13] = .next [a0, a1, a2, a3, .imm (.str call), a5, a6, a7, a8, a9, a10, .imm d, .imm r, .imm r] := by
  have key : ∃ r, F__law_told [.imm (.str call), .imm d] = .ret (.dat r) [.imm (.str call), .imm d] ∧ F__law_due [.imm (.str call), .imm d] = .ret (.dat r) [.imm (.str call), .imm d] ∧ gNeU r r = some (.dat (.bl false)) ∧ gIsi [r, .any (.ty "bool")] = some (.dat (.bl false)) := by
    rcases h with ⟨x, rfl, h1, h2⟩ | h
    · have hg := gd_rb (call := call) h2
      exact ⟨rbD call x, told_spec h1, due_spec h1 h2, gNeU_same hg.1 hg.2, rb_notbool⟩
    · exact ⟨.int (-1), told_not h, due_not h, rfl, isi_int_bool _⟩
  obtain ⟨r, e1, e2, e3, e4⟩ := key
  refine ⟨r, ?_⟩
  rcases j12 with rfl | ⟨q12, rfl⟩ <;> rcases j13 with rfl | ⟨q13, rfl⟩ <;> simp [Y2_law, funF, sSeq_ap, sIf_ap, bBl_ap, bTr_ap, bAnd_ap, bOr_ap, bNot_ap, eAnd_ap, eOr_ap, eNot_ap, eIf_ap, eOp_ap, eUn_ap, settled_ap, settle, eVar_ap, eC_ap, sAsg_ap, gN_ap, gT_ap, gsNil_ap, gsCons_ap, cont, conts, Slot.data, blD, truD, Out.bind, Out.of, Out.toS, OutS.bind, OutS.of, assign, put_eq, freeze, freezes, frz1, aNil_ap, aCons_ap, eCB_ap, eTup_ap, eLst_ap, eDic_ap, sRet_ap, handOut, setOwn, slotD, ownL, ownD, intD, strD, sSetL_ap, gSetL_ap, sNext_ap, eCall_ap, callF, toArg, toArgs, onceEach, isSlot, back, bs_none, bs_own, bs_par, bs_imm, bs_no, sPar_ap, sPar2_ap, eM1_ap, eMT_ap, eSl_ap, oNone_ap, oPart_ap, eBmL_ap, eBmD_ap, eDGet2_ap, sPut_ap, eSetd_ap, sRaise_ap, eChain_ap, eCBK_ap, srcV_ap, srcE_ap, srcZ_ap, List.findIdx?_cons, sm0, sm1, sm2, sm3, sm4, sm5, wip_eq, wipeE, Option.any_some, e1, e2, e3, e4]
theorem check_loop {call : Str} {T : List D} (hT : ∀ d ∈ T, Th 100000 d) {a0 a1 a2 a3 a5 a6 a7 a8 a9 a10 z11 z12 z13 : Slot} (h9 : OI' a9 (.lst T)) (j11 : Jk' z11) (j12 : Jk' z12) (j13 : Jk' z13) :
    ∃ y11 y12 y13, Jk' y11 ∧ Jk' y12 ∧ Jk' y13 ∧ X2_law [a0, a1, a2, a3, .imm (.str call), a5, a6, a7, a8, a9, a10, z11, z12, z13] = .next [a0, a1, a2, a3, .imm (.str call), a5, a6, a7, a8, .imm (.lst T), a10, y11, y12, y13] := by
  have key := sFor_inv (s := datS T) (g := gN 11) (F := Y2_law) (fs := srcV (eVar 9)) (env := [a0, a1, a2, a3, .imm (.str call), a5, a6, a7, a8, a9, a10, z11, z12, z13]) (e0 := [a0, a1, a2, a3, .imm (.str call), a5, a6, a7, a8, .imm (.lst T), a10, z11, z12, z13])
    (I := fun i env => ∃ y11 y12 y13, Jk' y11 ∧ Jk' y12 ∧ Jk' y13 ∧ env = [a0, a1, a2, a3, .imm (.str call), a5, a6, a7, a8, .imm (.lst T), a10, y11, y12, y13]) (by rcases h9 with rfl | rfl <;> rfl) ⟨z11, z12, z13, j11, j12, j13, rfl⟩ (fun _ _ => rfl) ?_
  · obtain ⟨env', e, y11, y12, y13, k1, k2, k3, rfl⟩ := key
    change X2_law _ = _ at e
    exact ⟨y11, y12, y13, k1, k2, k3, e⟩
  · rintro i env hi ⟨y11, y12, y13, k1, k2, k3, rfl⟩
    have hi : i < T.length := hi
    have e1 := List.getElem?_eq_getElem hi
    have hm := List.getElem_mem hi
    generalize T[i] = d at e1 hm
    obtain ⟨r, e⟩ := check_turn (call := call) (hT d hm) (a0 := a0) (a1 := a1) (a2 := a2) (a3 := a3) (a5 := a5) (a6 := a6) (a7 := a7) (a8 := a8) (a9 := .imm (.lst T)) (a10 := a10) k2 k3
    refine ⟨d, _, e1, ?_, .imm d, .imm r, .imm r, Jk'.im _, Jk'.im _, Jk'.im _, rfl⟩
    rw [← e]
    rcases k1 with rfl | ⟨q, rfl⟩ <;> simp [gN_ap, assign, put, storable, OutS.of]
/-- ten bent texts more -/
theorem bend_loop {n : Nat} {b : D} {T : List D} {text : Str} (hb : BagOk n b) (hn : n < 40000) (hT : ∀ d ∈ T, Th 200 d) (hl : T.length = 13) (htl : text.length ≤ 200) (hto : okS text) {a0 a1 a3 a4 a5 a6 a7 z10 a11 a12 a13 : Slot} (j10 : Jk' z10) :
    ∃ (b' : D) (T' : List D) (y10 : Slot), BagOk (n + 50) b' ∧ (∀ d ∈ T', Th 100000 d) ∧ Jk' y10 ∧ X1_law [a0, a1, .own b, a3, a4, a5, a6, a7, .imm (.str text), .own (.lst T), z10, a11, a12, a13] = .next [a0, a1, .own b', a3, a4, a5, a6, a7, .imm (.str text), .own (.lst T'), y10, a11, a12, a13] := by
  have key := sFor_inv (s := rngS 0 10) (g := gN 10) (F := Y1_law) (fs := srcR1 (aCons (eC (.int 10)) aNil)) (env := [a0, a1, .own b, a3, a4, a5, a6, a7, .imm (.str text), .own (.lst T), z10, a11, a12, a13]) (e0 := [a0, a1, .own b, a3, a4, a5, a6, a7, .imm (.str text), .own (.lst T), z10, a11, a12, a13])
    (I := fun i env => ∃ (b' : D) (X : List D) (y10 : Slot), BagOk (n + 5 * i) b' ∧ X.length = i ∧ (∀ d ∈ X, Th 100000 d) ∧ Jk' y10 ∧ env = [a0, a1, .own b', a3, a4, a5, a6, a7, .imm (.str text), .own (.lst (T ++ X)), y10, a11, a12, a13])
    (srcR1_nat (n := 10) (as := [.dat (.int 10)]) rfl rfl (by omega)) ⟨b, [], z10, hb, rfl, (fun d hd => by cases hd), j10, by simp⟩ (fun _ _ => rfl) ?_
  · obtain ⟨env', e, b', X, y10, h1, h2, h3, k, rfl⟩ := key
    change X1_law _ = _ at e
    exact ⟨b', T ++ X, y10, h1, fun d hd => by
      rcases List.mem_append.mp hd with h | h
      · exact (hT d h).mono (by omega)
      · exact h3 d h, k, e⟩
  · rintro i env hi ⟨b', X, y10, h1, h2, h3, k, rfl⟩
    have hi : i < 10 := hi
    have hiT : i < T.length := by omega
    have e1 : (T ++ X)[i]? = some T[i] := by rw [List.getElem?_append_left hiT]; exact List.getElem?_eq_getElem hiT
    have hm := List.getElem_mem hiT
    generalize T[i] = d at e1 hm
    have ix := gIx_lst e1
    have hsz : (T ++ X).length < sizeLine := by
      simp only [List.length_append]
      unfold sizeLine
      omega
    have fin : ∃ (y : Str) (b2 : D), y.length ≤ 100000 ∧ okS y ∧ BagOk (n + 5 * i + 5) b2 ∧ Y1_law [a0, a1, .own b', a3, a4, a5, a6, a7, .imm (.str text), .own (.lst (T ++ X)), .imm (.int (i : Int)), a11, a12, a13] = .next [a0, a1, .own b2, a3, a4, a5, a6, a7, .imm (.str text), .own (.lst (T ++ X ++ [.str y])), .imm (.int (i : Int)), a11, a12, a13] := by
      generalize T ++ X = TX at e1 ix hsz
      rcases hT d hm with ⟨x, rfl, hx1, hx2⟩ | hnot
      · obtain ⟨y, b2, g1, g2, g3, e2⟩ := bent_spec h1 (by omega) hx1 hx2
        refine ⟨y, b2, g1, g2, g3, ?_⟩
        simp [Y1_law, funF, sSeq_ap, sIf_ap, bBl_ap, bTr_ap, bAnd_ap, bOr_ap, bNot_ap, eAnd_ap, eOr_ap, eNot_ap, eIf_ap, eOp_ap, eUn_ap, settled_ap, settle, eVar_ap, eC_ap, sAsg_ap, gN_ap, gT_ap, gsNil_ap, gsCons_ap, cont, conts, Slot.data, blD, truD, Out.bind, Out.of, Out.toS, OutS.bind, OutS.of, assign, put_eq, freeze, freezes, frz1, aNil_ap, aCons_ap, eCB_ap, eTup_ap, eLst_ap, eDic_ap, sRet_ap, handOut, setOwn, slotD, ownL, ownD, intD, strD, sSetL_ap, gSetL_ap, sNext_ap, eCall_ap, callF, toArg, toArgs, onceEach, isSlot, back, bs_none, bs_own, bs_par, bs_imm, bs_no, sPar_ap, sPar2_ap, eM1_ap, eMT_ap, eSl_ap, oNone_ap, oPart_ap, eBmL_ap, eBmD_ap, eDGet2_ap, sPut_ap, eSetd_ap, sRaise_ap, eChain_ap, eCBK_ap, srcV_ap, srcE_ap, srcZ_ap, List.findIdx?_cons, sm0, sm1, sm2, sm3, sm4, sm5, wip_eq, wipeE, Option.any_some, ix, isi_str_str, e2, gAppend, hsz]
      · obtain ⟨y, b2, g1, g2, g3, e2⟩ := bent_spec h1 (by omega) htl hto
        refine ⟨y, b2, g1, g2, g3, ?_⟩
        have hnot : gIsi [d, .any (.ty "str")] = some (.dat (.bl false)) := hnot
        simp [Y1_law, funF, sSeq_ap, sIf_ap, bBl_ap, bTr_ap, bAnd_ap, bOr_ap, bNot_ap, eAnd_ap, eOr_ap, eNot_ap, eIf_ap, eOp_ap, eUn_ap, settled_ap, settle, eVar_ap, eC_ap, sAsg_ap, gN_ap, gT_ap, gsNil_ap, gsCons_ap, cont, conts, Slot.data, blD, truD, Out.bind, Out.of, Out.toS, OutS.bind, OutS.of, assign, put_eq, freeze, freezes, frz1, aNil_ap, aCons_ap, eCB_ap, eTup_ap, eLst_ap, eDic_ap, sRet_ap, handOut, setOwn, slotD, ownL, ownD, intD, strD, sSetL_ap, gSetL_ap, sNext_ap, eCall_ap, callF, toArg, toArgs, onceEach, isSlot, back, bs_none, bs_own, bs_par, bs_imm, bs_no, sPar_ap, sPar2_ap, eM1_ap, eMT_ap, eSl_ap, oNone_ap, oPart_ap, eBmL_ap, eBmD_ap, eDGet2_ap, sPut_ap, eSetd_ap, sRaise_ap, eChain_ap, eCBK_ap, srcV_ap, srcE_ap, srcZ_ap, List.findIdx?_cons, sm0, sm1, sm2, sm3, sm4, sm5, wip_eq, wipeE, Option.any_some, ix, hnot, e2, gAppend, hsz]
    obtain ⟨y, b2, g1, g2, g3, e2⟩ := fin
    refine ⟨.int (0 + (i : Nat)), _, rfl, ?_, b2, X ++ [.str y], .imm (.int (i : Int)), g3, by simp [h2], fun z hz => ?_, Jk'.im _, rfl⟩
    · rw [← List.append_assoc, ← e2, Int.zero_add]
      rcases k with rfl | ⟨q, rfl⟩ <;> simp [gN_ap, assign, put, storable, OutS.of]
    · rcases List.mem_append.mp hz with h | h
      · exact h3 z h
      · rw [List.mem_singleton.mp h]
        exact .inl ⟨y, rfl, g1, g2⟩
end DL.K46

namespace DL.K46
open PySem L2 PySem.Spec PyProof.Rows
theorem bd_add {p q : List (List Str)} (h : p.length + q.length ≤ 16777216) : gAddU (bdD p) (bdD q) = some (.dat (bdD (p ++ q))) := by
  show (if small ((p.map wD).length + (q.map wD).length) then some (EV.dat (.tup (p.map wD ++ q.map wD))) else none) = _
  have hs : small ((p.map wD).length + (q.map wD).length) = true := small_of (by simpa using h)
  rw [if_pos hs, ← List.map_append]
  rfl
theorem bd_cut (p : List (List Str)) (k : Nat) : gSl (bdD p) none (some (k : Int)) = some (.dat (bdD (p.take k))) := by
  show some (EV.dat (.tup (cutD (p.map wD) none (some (k : Int))))) = _
  rw [cutD_to, ← List.map_take]
  rfl
theorem row_ok {call : Str} {r : List Str} (h : RowS call r) : ∀ z ∈ r, okS z := by
  have hsay : okS "say" := by unfold okS; decide +kernel
  have hcall : okS "call" := by unfold okS; decide +kernel
  have hnext : okS "next" := by unfold okS; decide +kernel
  intro z hz
  rcases h with rfl | ⟨b, h1, rfl⟩ | ⟨b, h1, h2, rfl⟩
  · rw [List.mem_singleton.mp hz]; exact hnext
  · rcases List.mem_cons.mp hz with e | e
    · rw [e]; exact hsay
    · rw [List.mem_singleton.mp e]; exact okS_nm h1
  · rcases List.mem_cons.mp hz with e | e
    · rw [e]; exact hcall
    · rw [List.mem_singleton.mp e]; exact okS_nm h1
theorem gd_bd {call : Str} {rs : List (List Str)} (h : BodyS call rs) : gd (bdD rs) = true ∧ dep (bdD rs) ≤ 64 := by
  unfold bdD
  constructor
  · rw [gd]
    exact gds_map fun r hr => (gd_wD (row_ok (h r hr))).1
  · rw [dep]
    have := deps_map (f := wD) (n := 1) (l := rs) fun r hr => (gd_wD (row_ok (h r hr))).2
    omega
theorem wrt_ok {call : Str} {rs : List (List Str)} (h : BodyS call rs) (hl : rs.length ≤ 6) : (wrt rs).length ≤ 90 ∧ okS (wrt rs) := by
  unfold wrt
  split
  · exact ⟨by decide +kernel, by unfold okS; decide +kernel⟩
  · have hlen : ∀ p ∈ rs.map (Str.join blank), p.length ≤ 13 := fun p hp => by
      obtain ⟨r, hr, rfl⟩ := List.mem_map.mp hp
      exact (row_len (h r hr)).2
    have h1 := joined_len hlen
    rw [List.length_map] at h1
    refine ⟨by omega, okS_join (by unfold okS; decide +kernel) fun p hp => ?_⟩
    obtain ⟨r, hr, rfl⟩ := List.mem_map.mp hp
    exact okS_join (by unfold okS; decide +kernel) (row_ok (h r hr))
def nexts (k : Nat) : List Str := (List.replicate k [("next" : Str)]).flatten
theorem nexts_mul {k : Nat} (h : k < 1000) : gMulU (.lst [.str "next"]) (.int (k : Int)) = some (.new (sD (nexts k))) := sD_mul (ps := ["next"]) (by simp; omega) h
theorem nexts_join {k : Nat} (h : k ≤ 7) : ∃ x, gJoin (.str ", ") (sD (nexts k)) = some (.dat (.str x)) ∧ x.length ≤ 200 ∧ okS x := by
  have hm : ∀ z ∈ nexts k, z = "next" := fun z hz => by
    unfold nexts at hz
    simp only [List.mem_flatten, List.mem_replicate] at hz
    obtain ⟨l, ⟨_, rfl⟩, h⟩ := hz
    exact List.mem_singleton.mp h
  have hl : (nexts k).length ≤ 7 := by
    have : ∀ k, (nexts k).length = k := fun k => by
      unfold nexts
      induction k with
      | zero => rfl
      | succ k ih => rw [List.replicate_succ, List.flatten_cons, List.length_append, ih]; simp; omega
    rw [this]
    exact h
  have h4 : ("next" : Str).length = 4 := by decide +kernel
  have hs := sum_le (n := 4) (ps := nexts k) fun z hz => by rw [hm z hz, h4]; exact Nat.le_refl _
  have h2 : (", " : Str).length = 2 := by decide +kernel
  refine ⟨Str.join ", " (nexts k), gJoin_str (by rw [h2]; omega), ?_, okS_join (by unfold okS; decide +kernel) fun z hz => ?_⟩
  · have := StrLaws.join_length_le ", " (nexts k)
    rw [h2] at this
    omega
  · rw [hm z hz]
    unfold okS
    decide +kernel
theorem th_list {n : Nat} (l : List D) (h : l.all (fun _ => true) = true) : True := trivial
/-- one turn: a body written, read, bent -/
theorem turn_spec {n : Nat} {b : D} {call : Str} {calls words : List Str} {w5 : Slot} (hw5 : OI' w5 (sD words)) (hb : BagOk n b) (hn : n < 30000) (hcall : nmS call = true) (hc : ∀ z ∈ calls, nmS z = true) (hw : ∀ z ∈ words, nmS z = true) (hne : words ≠ []) (hcl : calls.length ≤ 1000) (hwl : words.length ≤ 1000) {S A : D} {z6 z7 z8 z9 z10 z11 z12 z13 : Slot}
    (j7 : Jk' z7) (j8 : Jk' z8) (j9 : Jk' z9) (j10 : Jk' z10) (j11 : Jk' z11) (j12 : Jk' z12) (j13 : Jk' z13) :
    ∃ (b' : D) (y7 y8 y9 y10 y11 y12 y13 : Slot), BagOk (n + 69) b' ∧ Jk' y7 ∧ Jk' y8 ∧ Jk' y9 ∧ Jk' y10 ∧ Jk' y11 ∧ Jk' y12 ∧ Jk' y13 ∧
      Y3_law [.imm S, .imm A, .own b, .own (sD calls), .imm (.str call), w5, z6, z7, z8, z9, z10, z11, z12, z13] = .next [.imm S, .imm A, .own b', .own (sD calls), .imm (.str call), w5, z6, y7, y8, y9, y10, y11, y12, y13] := by
  have bodyC : ∀ {m : Nat} {d : D}, BagOk m d → m < 40000 → ∃ (rs : List (List Str)) (d' : D), BodyS call rs ∧ rs.length ≤ 4 ∧ BagOk (m + 9) d' ∧ eCall 4 F__law_body (aCons (eVar 2) (aCons (eVar 4) (aCons (eVar 3) (aCons (eVar 5) aNil)))) [.imm S, .imm A, .own d, .own (sD calls), .imm (.str call), w5, z6, z7, z8, z9, z10, z11, z12, z13] =
      .val (.dat (bdD rs)) [.imm S, .imm A, .own d', .own (sD calls), .imm (.str call), w5, z6, z7, z8, z9, z10, z11, z12, z13] := by
    intro m d hbd hm
    rcases hw5 with rfl | rfl
    · obtain ⟨rs, d', h1, h2, h3, e⟩ := body_spec (call := call) (words := words) (calls := calls) (.inl rfl) hbd (by omega) hc hw hne hcl hwl
      refine ⟨rs, d', h1, h2, h3, ?_⟩
      generalize sD calls = C at *
      generalize sD words = Wd at *
      generalize bdD rs = R at *
      simp [funF, sSeq_ap, sIf_ap, bBl_ap, bTr_ap, bAnd_ap, bOr_ap, bNot_ap, eAnd_ap, eOr_ap, eNot_ap, eIf_ap, eOp_ap, eUn_ap, settled_ap, settle, eVar_ap, eC_ap, sAsg_ap, gN_ap, gT_ap, gsNil_ap, gsCons_ap, cont, conts, Slot.data, blD, truD, Out.bind, Out.of, Out.toS, OutS.bind, OutS.of, assign, put_eq, freeze, freezes, frz1, aNil_ap, aCons_ap, eCB_ap, eTup_ap, eLst_ap, eDic_ap, sRet_ap, handOut, setOwn, slotD, ownL, ownD, intD, strD, sSetL_ap, gSetL_ap, sNext_ap, eCall_ap, callF, toArg, toArgs, onceEach, isSlot, back, bs_none, bs_own, bs_par, bs_imm, bs_no, sPar_ap, sPar2_ap, eM1_ap, eMT_ap, eSl_ap, oNone_ap, oPart_ap, eBmL_ap, eBmD_ap, eDGet2_ap, sPut_ap, eSetd_ap, sRaise_ap, eChain_ap, eCBK_ap, srcV_ap, srcE_ap, srcZ_ap, List.findIdx?_cons, sm0, sm1, sm2, sm3, sm4, sm5, wip_eq, wipeE, Option.any_some, e]
    · obtain ⟨rs, d', h1, h2, h3, e⟩ := body_spec (call := call) (words := words) (calls := calls) (.inr rfl) hbd (by omega) hc hw hne hcl hwl
      refine ⟨rs, d', h1, h2, h3, ?_⟩
      generalize sD calls = C at *
      generalize sD words = Wd at *
      generalize bdD rs = R at *
      simp [funF, sSeq_ap, sIf_ap, bBl_ap, bTr_ap, bAnd_ap, bOr_ap, bNot_ap, eAnd_ap, eOr_ap, eNot_ap, eIf_ap, eOp_ap, eUn_ap, settled_ap, settle, eVar_ap, eC_ap, sAsg_ap, gN_ap, gT_ap, gsNil_ap, gsCons_ap, cont, conts, Slot.data, blD, truD, Out.bind, Out.of, Out.toS, OutS.bind, OutS.of, assign, put_eq, freeze, freezes, frz1, aNil_ap, aCons_ap, eCB_ap, eTup_ap, eLst_ap, eDic_ap, sRet_ap, handOut, setOwn, slotD, ownL, ownD, intD, strD, sSetL_ap, gSetL_ap, sNext_ap, eCall_ap, callF, toArg, toArgs, onceEach, isSlot, back, bs_none, bs_own, bs_par, bs_imm, bs_no, sPar_ap, sPar2_ap, eM1_ap, eMT_ap, eSl_ap, oNone_ap, oPart_ap, eBmL_ap, eBmD_ap, eDGet2_ap, sPut_ap, eSetd_ap, sRaise_ap, eChain_ap, eCBK_ap, srcV_ap, srcE_ap, srcZ_ap, List.findIdx?_cons, sm0, sm1, sm2, sm3, sm4, sm5, wip_eq, wipeE, Option.any_some, e]
  obtain ⟨rs1, b1, h1, l1, hb1, e1⟩ := bodyC hb (by omega)
  obtain ⟨rs2, b2, h2, l2, hb2, e2⟩ := bodyC hb1 (by omega)
  obtain ⟨k, b3, hk, hb3, e3⟩ := take_k (m := 7) (mi := 7) rfl hb2 (by omega) (by omega) (by omega)
  have a1 := bd_add (p := rs1) (q := rs2) (by omega)
  have c1 := bd_cut (rs1 ++ rs2) k
  have hB : BodyS call ((rs1 ++ rs2).take k) := fun r hr => by
    rcases List.mem_append.mp (List.mem_of_mem_take hr) with h | h
    · exact h1 r h
    · exact h2 r h
  have hBl : ((rs1 ++ rs2).take k).length ≤ 6 := by simp; omega
  generalize (rs1 ++ rs2).take k = rs at c1 hB hBl
  have ew := written_spec hB (by omega)
  have es := show_spec hB (by omega)
  have htx := wrt_ok hB hBl
  have er := read_spec (call := call) (x := wrt rs) (by omega)
  unfold rbO at er
  rw [rb_wrt hB hBl] at er
  have er : F_read_body [.imm (.str call), .imm (.str (wrt rs))] = .ret (.dat (bdD rs)) [.imm (.str call), .imm (.str (wrt rs))] := er
  have hgd := gd_bd hB
  have hne2 := gNeU_same hgd.1 hgd.2
  have hnotB : notS (bdD rs) := isi_tup_str _
  generalize wrt rs = text at ew es htx er
  obtain ⟨n6, g6, g6l, g6o⟩ := nexts_join (k := 6) (by omega)
  obtain ⟨n7, g7, g7l, g7o⟩ := nexts_join (k := 7) (by omega)
  have m6 : gMulU (.lst [.str "next"]) (.int 6) = some (.new (sD (nexts 6))) := nexts_mul (k := 6) (by omega)
  have m7 : gMulU (.lst [.str "next"]) (.int 7) = some (.new (sD (nexts 7))) := nexts_mul (k := 7) (by omega)
  have hcl8 := (nmS_iff.mp hcall).2.1
  have lnx : (", next" : Str).length = 6 := by decide +kernel
  have lcm : (", " : Str).length = 2 := by decide +kernel
  have lca : ("call " : Str).length = 5 := by decide +kernel
  have p1 := gAddU_str (x := text) (y := ", next") (small_of (by omega))
  have p2 := gAddU_str (x := text) (y := ", ") (small_of (by omega))
  have p3 := gAddU_str (x := "call ") (y := call) (small_of (by omega))
  have hT : ∀ d ∈ ([.str (text ++ ", next"), .str n6, .str n7, .str "", .str "- ", .str (text ++ ", "), .non, .int 7, bdD rs, .lst [.str text], .str ("call " ++ call), .str "say house", .str "say abcdefghi"] : List D), Th 200 d := by
    have lit : ∀ x : Str, x.length ≤ 200 → okS x → Th 200 (.str x) := fun x h1 h2 => .inl ⟨x, rfl, h1, h2⟩
    intro d hd
    simp only [List.mem_cons, List.not_mem_nil, or_false] at hd
    rcases hd with rfl | rfl | rfl | rfl | rfl | rfl | rfl | rfl | rfl | rfl | rfl | rfl | rfl
    · exact lit _ (by rw [Str.length_append]; omega) (okS_app htx.2 (by unfold okS; decide +kernel))
    · exact lit _ g6l g6o
    · exact lit _ g7l g7o
    · exact lit _ (by decide +kernel) (by unfold okS; decide +kernel)
    · exact lit _ (by decide +kernel) (by unfold okS; decide +kernel)
    · exact lit _ (by rw [Str.length_append]; omega) (okS_app htx.2 (by unfold okS; decide +kernel))
    · exact .inr isi_non_str
    · exact .inr (isi_int_str _)
    · exact .inr hnotB
    · exact .inr (isi_lst_str _)
    · exact lit _ (by rw [Str.length_append]; omega) (okS_app (by unfold okS; decide +kernel) (okS_nm hcall))
    · exact lit _ (by decide +kernel) (by unfold okS; decide +kernel)
    · exact lit _ (by decide +kernel) (by unfold okS; decide +kernel)
  obtain ⟨b', T', y10, hb', hT', k10, eb⟩ := bend_loop (text := text) hb3 (by omega) hT rfl (by omega) htx.2 (a0 := .imm S) (a1 := .imm A) (a3 := .own (sD calls)) (a4 := .imm (.str call)) (a5 := w5) (a6 := z6) (a7 := .imm (bdD rs)) (a11 := z11) (a12 := z12) (a13 := z13) j10
  obtain ⟨y11, y12, y13, k11, k12, k13, ec⟩ := check_loop (call := call) hT' (a0 := .imm S) (a1 := .imm A) (a2 := .own b') (a3 := .own (sD calls)) (a5 := w5) (a6 := z6) (a7 := .imm (bdD rs)) (a8 := .imm (.str text)) (a9 := .own (.lst T')) (a10 := y10) (.inl rfl) j11 j12 j13
  refine ⟨b', .imm (bdD rs), .imm (.str text), .imm (.lst T'), y10, y11, y12, y13, hb'.mono (by omega), Jk'.im _, Jk'.im _, Jk'.im _, k10, k11, k12, k13, ?_⟩
  have s6 : small 6 = true := by decide
  have s7 : small 7 = true := by decide
  have s13 : small 13 = true := by decide
  have add2 : gAddU (.lst [.str (text ++ ", next"), .str n6, .str n7, .str "", .str "- ", .str (text ++ ", ")]) (.lst [.non, .int 7, bdD rs, .lst [.str text], .str ("call " ++ call), .str "say house", .str "say abcdefghi"]) = some (.new (.lst [.str (text ++ ", next"), .str n6, .str n7, .str "", .str "- ", .str (text ++ ", "), .non, .int 7, bdD rs, .lst [.str text], .str ("call " ++ call), .str "say house", .str "say abcdefghi"])) := rfl
  generalize [.str (text ++ ", next"), .str n6, .str n7, .str "", .str "- ", .str (text ++ ", "), .non, .int 7, bdD rs, .lst [.str text], .str ("call " ++ call), .str "say house", .str "say abcdefghi"] = T0 at hT eb add2
  generalize sD (nexts 6) = N6 at m6 g6
  generalize sD (nexts 7) = N7 at m7 g7
  generalize bdD (rs1 ++ rs2) = R12 at *
  generalize bdD rs1 = R1 at *
  generalize bdD rs2 = R2 at *
  generalize bdD rs = R at *
  generalize sD calls = C at *
  unfold Y3_law
  rw [sSeq_ap, sAsg_ap]
  have st1 : (eSl (settled (eOp gAddU (settled (eCall 4 F__law_body (aCons (eVar 2) (aCons (eVar 4) (aCons (eVar 3) (aCons (eVar 5) aNil)))))) (settled (eCall 4 F__law_body (aCons (eVar 2) (aCons (eVar 4) (aCons (eVar 3) (aCons (eVar 5) aNil)))))))) oNone (oPart (eCall 2 F__law_take (aCons (eVar 2) (aCons (eC (.int 7)) aNil))))) [.imm S, .imm A, .own b, .own C, .imm (.str call), w5, z6, z7, z8, z9, z10, z11, z12, z13] = .val (.dat R) [.imm S, .imm A, .own b3, .own C, .imm (.str call), w5, z6, z7, z8, z9, z10, z11, z12, z13] := by
    rw [eSl_ap, settled_ap, eOp_ap, settled_ap, e1]
    simp only [Out.bind_val, settle]
    rw [settled_ap, e2]
    have ez : (eCall 2 F__law_take (aCons (eVar 2) (aCons (eC (.int 7)) aNil))) [.imm S, .imm A, .own b2, .own C, .imm (.str call), w5, z6, z7, z8, z9, z10, z11, z12, z13] = .val (.dat (.int (k : Int))) [.imm S, .imm A, .own b3, .own C, .imm (.str call), w5, z6, z7, z8, z9, z10, z11, z12, z13] := by
      rcases hw5 with rfl | rfl <;> simp [funF, sSeq_ap, sIf_ap, bBl_ap, bTr_ap, bAnd_ap, bOr_ap, bNot_ap, eAnd_ap, eOr_ap, eNot_ap, eIf_ap, eOp_ap, eUn_ap, settled_ap, settle, eVar_ap, eC_ap, sAsg_ap, gN_ap, gT_ap, gsNil_ap, gsCons_ap, cont, conts, Slot.data, blD, truD, Out.bind, Out.of, Out.toS, OutS.bind, OutS.of, assign, put_eq, freeze, freezes, frz1, aNil_ap, aCons_ap, eCB_ap, eTup_ap, eLst_ap, eDic_ap, sRet_ap, handOut, setOwn, slotD, ownL, ownD, intD, strD, sSetL_ap, gSetL_ap, sNext_ap, eCall_ap, callF, toArg, toArgs, onceEach, isSlot, back, bs_none, bs_own, bs_par, bs_imm, bs_no, sPar_ap, sPar2_ap, eM1_ap, eMT_ap, eSl_ap, oNone_ap, oPart_ap, eBmL_ap, eBmD_ap, eDGet2_ap, sPut_ap, eSetd_ap, sRaise_ap, eChain_ap, eCBK_ap, srcV_ap, srcE_ap, srcZ_ap, List.findIdx?_cons, sm0, sm1, sm2, sm3, sm4, sm5, wip_eq, wipeE, Option.any_some, e3]
    simp [cont, a1, oNone_ap, oPart_ap, ez, intD, c1, settle]
  rw [st1]
  rcases hw5 with rfl | rfl <;> rcases j7 with rfl | ⟨q7, rfl⟩ <;> rcases j8 with rfl | ⟨q8, rfl⟩ <;> rcases j9 with rfl | ⟨q9, rfl⟩ <;> simp [funF, sSeq_ap, sIf_ap, bBl_ap, bTr_ap, bAnd_ap, bOr_ap, bNot_ap, eAnd_ap, eOr_ap, eNot_ap, eIf_ap, eOp_ap, eUn_ap, settled_ap, settle, eVar_ap, eC_ap, sAsg_ap, gN_ap, gT_ap, gsNil_ap, gsCons_ap, cont, conts, Slot.data, blD, truD, Out.bind, Out.of, Out.toS, OutS.bind, OutS.of, assign, put_eq, freeze, freezes, frz1, aNil_ap, aCons_ap, eCB_ap, eTup_ap, eLst_ap, eDic_ap, sRet_ap, handOut, setOwn, slotD, ownL, ownD, intD, strD, sSetL_ap, gSetL_ap, sNext_ap, eCall_ap, callF, toArg, toArgs, onceEach, isSlot, back, bs_none, bs_own, bs_par, bs_imm, bs_no, sPar_ap, sPar2_ap, eM1_ap, eMT_ap, eSl_ap, oNone_ap, oPart_ap, eBmL_ap, eBmD_ap, eDGet2_ap, sPut_ap, eSetd_ap, sRaise_ap, eChain_ap, eCBK_ap, srcV_ap, srcE_ap, srcZ_ap, List.findIdx?_cons, sm0, sm1, sm2, sm3, sm4, sm5, wip_eq, wipeE, Option.any_some, ew, es, er, gNeU_str, hne2, p1, p2, p3, m6, m7, g6, g7, s6, s7, add2, eb, ec]
end DL.K46

namespace DL.K46
open PySem L2 PySem.Spec PyProof.Rows
theorem turns_spec {b : D} {call : Str} {calls words : List Str} {w5 : Slot} (hw5 : OI' w5 (sD words)) (hb : BagOk 100 b) (hcall : nmS call = true) (hc : ∀ z ∈ calls, nmS z = true) (hw : ∀ z ∈ words, nmS z = true) (hne : words ≠ []) (hcl : calls.length ≤ 1000) (hwl : words.length ≤ 1000) {S A : D} {z6 z7 z8 z9 z10 z11 z12 z13 : Slot}
    (j6 : Jk' z6) (j7 : Jk' z7) (j8 : Jk' z8) (j9 : Jk' z9) (j10 : Jk' z10) (j11 : Jk' z11) (j12 : Jk' z12) (j13 : Jk' z13) :
    ∃ (b' : D) (y6 y7 y8 y9 y10 y11 y12 y13 : Slot), Jk' y6 ∧ Jk' y7 ∧ Jk' y8 ∧ Jk' y9 ∧ Jk' y10 ∧ Jk' y11 ∧ Jk' y12 ∧ Jk' y13 ∧
      X3_law [.imm S, .imm A, .own b, .own (sD calls), .imm (.str call), w5, z6, z7, z8, z9, z10, z11, z12, z13] = .next [.imm S, .imm A, .own b', .own (sD calls), .imm (.str call), w5, y6, y7, y8, y9, y10, y11, y12, y13] := by
  have key := sFor_inv (s := rngS 0 4) (g := gN 6) (F := Y3_law) (fs := srcR1 (aCons (eC (.int 4)) aNil)) (env := [.imm S, .imm A, .own b, .own (sD calls), .imm (.str call), w5, z6, z7, z8, z9, z10, z11, z12, z13]) (e0 := [.imm S, .imm A, .own b, .own (sD calls), .imm (.str call), w5, z6, z7, z8, z9, z10, z11, z12, z13])
    (I := fun i env => ∃ (b' : D) (y6 y7 y8 y9 y10 y11 y12 y13 : Slot), BagOk (100 + 69 * i) b' ∧ Jk' y6 ∧ Jk' y7 ∧ Jk' y8 ∧ Jk' y9 ∧ Jk' y10 ∧ Jk' y11 ∧ Jk' y12 ∧ Jk' y13 ∧ env = [.imm S, .imm A, .own b', .own (sD calls), .imm (.str call), w5, y6, y7, y8, y9, y10, y11, y12, y13])
    (srcR1_nat (n := 4) (as := [.dat (.int 4)]) rfl rfl (by omega)) ⟨b, _, _, _, _, _, _, _, _, hb, j6, j7, j8, j9, j10, j11, j12, j13, rfl⟩ (fun _ _ => rfl) ?_
  · obtain ⟨env', e, b', y6, y7, y8, y9, y10, y11, y12, y13, _, k6, k7, k8, k9, k10, k11, k12, k13, rfl⟩ := key
    change X3_law _ = _ at e
    exact ⟨b', y6, y7, y8, y9, y10, y11, y12, y13, k6, k7, k8, k9, k10, k11, k12, k13, e⟩
  · rintro i env hi ⟨b1, y6, y7, y8, y9, y10, y11, y12, y13, hb1, k6, k7, k8, k9, k10, k11, k12, k13, rfl⟩
    have hi : i < 4 := hi
    obtain ⟨b2, x7, x8, x9, x10, x11, x12, x13, hb2, m7, m8, m9, m10, m11, m12, m13, e⟩ := turn_spec (S := S) (A := A) (z6 := .imm (.int (i : Int))) hw5 hb1 (by omega) hcall hc hw hne hcl hwl k7 k8 k9 k10 k11 k12 k13
    refine ⟨.int (0 + (i : Nat)), _, rfl, ?_, b2, .imm (.int (i : Int)), x7, x8, x9, x10, x11, x12, x13, hb2.mono (by omega), Jk'.im _, m7, m8, m9, m10, m11, m12, m13, rfl⟩
    rw [← e, Int.zero_add]
    rcases k6 with rfl | ⟨q, rfl⟩ <;> simp [gN_ap, assign, put, storable, OutS.of]
theorem sort_spec {ms : List Str} (h : ms.length < 64) : gSortU [sD ms] = some (.new (sD (sortS ms))) := by
  have : textsD (sD ms) = some ms := strsD_map ms
  show (match textsD (sD ms) with
    | some zs => if zs.length < 64 then some (EV.new (.lst ((sortS zs).map .str))) else none
    | none => none) = _
  rw [this]
  show (if ms.length < 64 then some (EV.new (.lst ((sortS ms).map .str))) else none) = _
  rw [if_pos h]
  rfl
theorem cell_spec {ns : List Int} {k : Nat} (hk : k < 1000) {z2 z3 z4 z5 z6 z7 z8 z9 z10 z11 z12 z13 : Slot} (o2 : okz z2 = true) (o3 : okz z3 = true) (o4 : okz z4 = true) (o5 : okz z5 = true)
    (j6 : Jk' z6) (j7 : Jk' z7) (j8 : Jk' z8) (j9 : Jk' z9) (j10 : Jk' z10) (j11 : Jk' z11) (j12 : Jk' z12) (j13 : Jk' z13) :
    ∃ (y2 y3 y4 y5 y6 y7 y8 y9 y10 y11 y12 y13 : Slot), okz y2 = true ∧ okz y3 = true ∧ okz y4 = true ∧ okz y5 = true ∧ Jk' y6 ∧ Jk' y7 ∧ Jk' y8 ∧ Jk' y9 ∧ Jk' y10 ∧ Jk' y11 ∧ Jk' y12 ∧ Jk' y13 ∧
      Y4_law [.imm (.frl (ns.map D.int)), .imm (.int (k : Int)), z2, z3, z4, z5, z6, z7, z8, z9, z10, z11, z12, z13] = .next [.imm (.frl (ns.map D.int)), .imm (.int (k : Int)), y2, y3, y4, y5, y6, y7, y8, y9, y10, y11, y12, y13] := by
  obtain ⟨b0, hb0, e0⟩ := bag_spec (ns := ns) hk
  obtain ⟨n1, b1, l1, d1, m1, hb1, e1⟩ := names_spec hb0 (by omega) (m := 5) (by omega)
  have e1 : F__law_names [.par b0, .imm (.int 5)] = .ret (.new (sD n1)) [.par b1, .imm (.int 5)] := e1
  obtain ⟨p1, b2, v1, hv1, q1, r1, hb2, e2⟩ := odd_spec hb1 (by omega) m1 (by omega)
  have hsort := sort_spec (ms := p1) (by omega)
  have hperm := sortS_perm p1
  obtain ⟨t, b3, ht, hb3, e3⟩ := take_k (m := 4) (mi := 4) rfl hb2 (by omega) (by omega) (by omega)
  have hsl : (sortS p1).length = 5 := by rw [hperm.length_eq]; omega
  have htl : t < (sortS p1).length := by omega
  have qt := List.getElem?_eq_getElem htl
  have mt := List.getElem_mem htl
  generalize (sortS p1)[t] = call at qt mt
  have xt := sD_ix qt
  have hsn : ∀ z ∈ sortS p1, nmS z = true := fun z hz => r1 z (hperm.mem_iff.mp hz)
  obtain ⟨n2, b4, l2, d2, m2, hb4, e4⟩ := names_spec hb3 (by omega) (m := 3) (by omega)
  have e4 : F__law_names [.par b3, .imm (.int 3)] = .ret (.new (sD n2)) [.par b4, .imm (.int 3)] := e4
  obtain ⟨p2, b5, v2, hv2, q2, r2, hb5, e5⟩ := odd_spec hb4 (by omega) m2 (by omega)
  have fin : ∀ w5 : Slot, OI' w5 (sD p2) → Y4_law [.imm (.frl (ns.map D.int)), .imm (.int (k : Int)), z2, z3, z4, z5, z6, z7, z8, z9, z10, z11, z12, z13] = X3_law [.imm (.frl (ns.map D.int)), .imm (.int (k : Int)), .own b5, .own (sD (sortS p1)), .imm (.str call), w5, z6, z7, z8, z9, z10, z11, z12, z13] → ∃ (y2 y3 y4 y5 y6 y7 y8 y9 y10 y11 y12 y13 : Slot), okz y2 = true ∧ okz y3 = true ∧ okz y4 = true ∧ okz y5 = true ∧ Jk' y6 ∧ Jk' y7 ∧ Jk' y8 ∧ Jk' y9 ∧ Jk' y10 ∧ Jk' y11 ∧ Jk' y12 ∧ Jk' y13 ∧
      Y4_law [.imm (.frl (ns.map D.int)), .imm (.int (k : Int)), z2, z3, z4, z5, z6, z7, z8, z9, z10, z11, z12, z13] = .next [.imm (.frl (ns.map D.int)), .imm (.int (k : Int)), y2, y3, y4, y5, y6, y7, y8, y9, y10, y11, y12, y13] := by
    intro w5 hw5 e
    obtain ⟨b', y6, y7, y8, y9, y10, y11, y12, y13, k6, k7, k8, k9, k10, k11, k12, k13, e6⟩ := turns_spec (S := .frl (ns.map D.int)) (A := .int (k : Int)) hw5 (hb5.mono (by omega)) (hsn call mt) hsn r2 (by
      intro z
      rw [z] at q2
      simp at q2
      omega) (by omega) (by omega) j6 j7 j8 j9 j10 j11 j12 j13
    refine ⟨.own b', .own (sD (sortS p1)), .imm (.str call), w5, y6, y7, y8, y9, y10, y11, y12, y13, rfl, rfl, rfl, by rcases hw5 with rfl | rfl <;> rfl, k6, k7, k8, k9, k10, k11, k12, k13, e.trans e6⟩
  generalize D.frl (ns.map D.int) = S at *
  generalize sD (sortS p1) = C at *
  generalize sD p1 = P1 at *
  generalize sD n1 = N1 at *
  generalize sD n2 = N2 at *
  rcases hv2 with rfl | rfl
  · refine fin (.imm (sD p2)) (.inr rfl) ?_
    generalize sD p2 = P2 at *
    rcases hv1 with rfl | rfl <;> simp [Y4_law, funF, sSeq_ap, sIf_ap, bBl_ap, bTr_ap, bAnd_ap, bOr_ap, bNot_ap, eAnd_ap, eOr_ap, eNot_ap, eIf_ap, eOp_ap, eUn_ap, settled_ap, settle, eVar_ap, eC_ap, sAsg_ap, gN_ap, gT_ap, gsNil_ap, gsCons_ap, cont, conts, Slot.data, blD, truD, Out.bind, Out.of, Out.toS, OutS.bind, OutS.of, assign, put_eq, freeze, freezes, frz1, aNil_ap, aCons_ap, eCB_ap, eTup_ap, eLst_ap, eDic_ap, sRet_ap, handOut, setOwn, slotD, ownL, ownD, intD, strD, sSetL_ap, gSetL_ap, sNext_ap, eCall_ap, callF, toArg, toArgs, onceEach, isSlot, back, bs_none, bs_own, bs_par, bs_imm, bs_no, sPar_ap, sPar2_ap, eM1_ap, eMT_ap, eSl_ap, oNone_ap, oPart_ap, eBmL_ap, eBmD_ap, eDGet2_ap, sPut_ap, eSetd_ap, sRaise_ap, eChain_ap, eCBK_ap, srcV_ap, srcE_ap, srcZ_ap, List.findIdx?_cons, sm0, sm1, sm2, sm3, sm4, sm5, wip_eq, wipeE, Option.any_some, o2, o3, o4, o5, e0, e1, e2, hsort, e3, xt, e4, e5]
  · refine fin (.own (sD p2)) (.inl rfl) ?_
    generalize sD p2 = P2 at *
    rcases hv1 with rfl | rfl <;> simp [Y4_law, funF, sSeq_ap, sIf_ap, bBl_ap, bTr_ap, bAnd_ap, bOr_ap, bNot_ap, eAnd_ap, eOr_ap, eNot_ap, eIf_ap, eOp_ap, eUn_ap, settled_ap, settle, eVar_ap, eC_ap, sAsg_ap, gN_ap, gT_ap, gsNil_ap, gsCons_ap, cont, conts, Slot.data, blD, truD, Out.bind, Out.of, Out.toS, OutS.bind, OutS.of, assign, put_eq, freeze, freezes, frz1, aNil_ap, aCons_ap, eCB_ap, eTup_ap, eLst_ap, eDic_ap, sRet_ap, handOut, setOwn, slotD, ownL, ownD, intD, strD, sSetL_ap, gSetL_ap, sNext_ap, eCall_ap, callF, toArg, toArgs, onceEach, isSlot, back, bs_none, bs_own, bs_par, bs_imm, bs_no, sPar_ap, sPar2_ap, eM1_ap, eMT_ap, eSl_ap, oNone_ap, oPart_ap, eBmL_ap, eBmD_ap, eDGet2_ap, sPut_ap, eSetd_ap, sRaise_ap, eChain_ap, eCBK_ap, srcV_ap, srcE_ap, srcZ_ap, List.findIdx?_cons, sm0, sm1, sm2, sm3, sm4, sm5, wip_eq, wipeE, Option.any_some, o2, o3, o4, o5, e0, e1, e2, hsort, e3, xt, e4, e5]
theorem F_law_true (ns : List Int) (hns : ns.length ≤ 63) : ∃ as, F_law [.imm (.frl (ns.map D.int))] = .ret (.dat (.bl true)) as := by
  obtain ⟨m, hm, hm7, hmax⟩ : ∃ m : Nat, m < 1000 ∧ m ≤ 7 ∧ (if (if (ns.length : Int) < 7 then (ns.length : Int) else 7) > 3 then (if (ns.length : Int) < 7 then (ns.length : Int) else 7) else 3) = (m : Int) := by
    by_cases h7 : (ns.length : Int) < 7
    · by_cases h3 : (ns.length : Int) > 3
      · exact ⟨ns.length, by omega, by omega, by rw [if_pos h7, if_pos h3]⟩
      · exact ⟨3, by omega, by omega, by rw [if_pos h7, if_neg h3]; rfl⟩
    · exact ⟨7, by omega, by omega, by rw [if_neg h7]; rfl⟩
  have key := sFor_inv (s := rngS 0 m) (g := gN 1) (F := Y4_law) (fs := srcR1 (aCons (settled (eCB gMax2 (aCons (eC (.int 3)) (aCons (settled (eCB gMin2 (aCons (eC (.int 7)) (aCons (settled (eCB gLenU (aCons (eVar 0) aNil))) aNil)))) aNil)))) aNil))
    (env := [.imm (.frl (ns.map D.int)), .no, .no, .no, .no, .no, .no, .no, .no, .no, .no, .no, .no, .no]) (e0 := [.imm (.frl (ns.map D.int)), .no, .no, .no, .no, .no, .no, .no, .no, .no, .no, .no, .no, .no])
    (I := fun i env => ∃ (y1 y2 y3 y4 y5 y6 y7 y8 y9 y10 y11 y12 y13 : Slot), Jk' y1 ∧ okz y2 = true ∧ okz y3 = true ∧ okz y4 = true ∧ okz y5 = true ∧ Jk' y6 ∧ Jk' y7 ∧ Jk' y8 ∧ Jk' y9 ∧ Jk' y10 ∧ Jk' y11 ∧ Jk' y12 ∧ Jk' y13 ∧ env = [.imm (.frl (ns.map D.int)), y1, y2, y3, y4, y5, y6, y7, y8, y9, y10, y11, y12, y13])
    ?_ ⟨.no, .no, .no, .no, .no, .no, .no, .no, .no, .no, .no, .no, .no, Jk'.no, rfl, rfl, rfl, rfl, Jk'.no, Jk'.no, Jk'.no, Jk'.no, Jk'.no, Jk'.no, Jk'.no, Jk'.no, rfl⟩ (fun _ _ => rfl) ?_
  · obtain ⟨env', e, y1, y2, y3, y4, y5, y6, y7, y8, y9, y10, y11, y12, y13, _, _, _, _, _, _, _, _, _, _, _, _, _, rfl⟩ := key
    change X4_law _ = _ at e
    refine ⟨[.imm (.frl (ns.map D.int))], ?_⟩
    generalize D.frl (ns.map D.int) = S at e ⊢
    simp [F_law, B_law, funF, sSeq_ap, sIf_ap, bBl_ap, bTr_ap, bAnd_ap, bOr_ap, bNot_ap, eAnd_ap, eOr_ap, eNot_ap, eIf_ap, eOp_ap, eUn_ap, settled_ap, settle, eVar_ap, eC_ap, sAsg_ap, gN_ap, gT_ap, gsNil_ap, gsCons_ap, cont, conts, Slot.data, blD, truD, Out.bind, Out.of, Out.toS, OutS.bind, OutS.of, assign, put, storable, freeze, freezes, frz1, aNil_ap, aCons_ap, eCB_ap, eTup_ap, eLst_ap, eDic_ap, sRet_ap, handOut, setOwn, slotD, ownL, ownD, intD, strD, sSetL_ap, gSetL_ap, sNext_ap, eCall_ap, callF, toArg, toArgs, onceEach, isSlot, back, backSlot, sPar_ap, sPar2_ap, eM1_ap, eMT_ap, eSl_ap, oNone_ap, oPart_ap, eBmL_ap, eBmD_ap, eDGet2_ap, sPut_ap, eSetd_ap, sRaise_ap, eChain_ap, eCBK_ap, srcV_ap, srcE_ap, srcZ_ap, List.findIdx?_cons, sm0, sm1, sm2, sm3, sm4, sm5, e]
  · refine srcR1_nat (n := m) (as := [.dat (.int m)]) ?_ rfl (by omega)
    have hl : gLenU [.frl (ns.map D.int)] = some (.dat (.int ns.length)) := by simp [gLenU]
    generalize D.frl (ns.map D.int) = S at hl ⊢
    have hmin : gMin2 [.int 7, .int (ns.length : Int)] = some (.dat (.int (if (ns.length : Int) < 7 then (ns.length : Int) else 7))) := rfl
    generalize (if (ns.length : Int) < 7 then (ns.length : Int) else 7) = mn at hmin hmax
    have hmx : gMax2 [.int 3, .int mn] = some (.dat (.int m)) := by
      show some (EV.dat (.int (if mn > 3 then mn else 3))) = _
      rw [hmax]
    simp [funF, sSeq_ap, sIf_ap, bBl_ap, bTr_ap, bAnd_ap, bOr_ap, bNot_ap, eAnd_ap, eOr_ap, eNot_ap, eIf_ap, eOp_ap, eUn_ap, settled_ap, settle, eVar_ap, eC_ap, sAsg_ap, gN_ap, gT_ap, gsNil_ap, gsCons_ap, cont, conts, Slot.data, blD, truD, Out.bind, Out.of, Out.toS, OutS.bind, OutS.of, assign, put, storable, freeze, freezes, frz1, aNil_ap, aCons_ap, eCB_ap, eTup_ap, eLst_ap, eDic_ap, sRet_ap, handOut, setOwn, slotD, ownL, ownD, intD, strD, sSetL_ap, gSetL_ap, sNext_ap, eCall_ap, callF, toArg, toArgs, onceEach, isSlot, back, backSlot, sPar_ap, sPar2_ap, eM1_ap, eMT_ap, eSl_ap, oNone_ap, oPart_ap, eBmL_ap, eBmD_ap, eDGet2_ap, sPut_ap, eSetd_ap, sRaise_ap, eChain_ap, eCBK_ap, srcV_ap, srcE_ap, srcZ_ap, List.findIdx?_cons, sm0, sm1, sm2, sm3, sm4, sm5, hl, hmin, hmx]
  · rintro i env hi ⟨y1, y2, y3, y4, y5, y6, y7, y8, y9, y10, y11, y12, y13, k1, o2, o3, o4, o5, k6, k7, k8, k9, k10, k11, k12, k13, rfl⟩
    have hi : i < m := hi
    obtain ⟨x2, x3, x4, x5, x6, x7, x8, x9, x10, x11, x12, x13, p2, p3, p4, p5, m6, m7, m8, m9, m10, m11, m12, m13, e⟩ := cell_spec (ns := ns) (k := i) (by omega) o2 o3 o4 o5 k6 k7 k8 k9 k10 k11 k12 k13
    refine ⟨.int (0 + (i : Nat)), _, rfl, ?_, .imm (.int (i : Int)), x2, x3, x4, x5, x6, x7, x8, x9, x10, x11, x12, x13, Jk'.im _, p2, p3, p4, p5, m6, m7, m8, m9, m10, m11, m12, m13, rfl⟩
    rw [← e, Int.zero_add]
    generalize D.frl (ns.map D.int) = S
    rcases k1 with rfl | ⟨q, rfl⟩ <;> simp [gN_ap, assign, put, storable, OutS.of]
end DL.K46

namespace DL.K46
open PySem L2 PySem.Spec PyProof.Rows
theorem walk {l : PySem.W.OpenLaw} {q : Program} {loose : List Str} {XP : (Str → Option Value) → Heap → Prop} {YP : World → Heap → Prop} {d : DefRec} {K : Params → PySem.W.Frag} (hn : l.most = some 63) (hdf : d.params.defaults = [])
    (hY : ∀ (w : World) (h : Heap), YP w h → (K w.params).In h)
    (F : ∀ (w : World) (mg : Str → Option Value) (fa : Addr) (h : Heap), (K w.params).In h → h.Ns mainGlobals mg → mg d.name = some (.ref fa) →
      ∃ fd : FuncData, (∀ (s : Shared) (u : Value), BindsTo s fd ⟨[u], []⟩ [("_law_script", u)]) ∧ ∀ base : Heap, (K w.params).In base → base.Ns mainGlobals mg → FnOk l.prog w (K w.params) mg base (L2.CX l.prog w) 5 fa fd ["_law_script"] (spLaw (K w.params))) :
    PySem.W.WalkO q loose XP YP l.row.toRowW d [] (fun f vs => PySem.call f vs) :=
  L2.walk_of (n := 63) (k := 5) (x := "_law_script") (CX := fun w => L2.CX l.prog w) (sp := fun w => spLaw (K w.params)) hn (by decide) hdf ⟨rfl, by decide, by decide⟩ hY F (fun _ _ a ns hl _ hS => ⟨a, ns, rfl, hS, hl, fun _ => rfl⟩)
    fun w H s e s' z => by
      obtain ⟨_, _, _, _, _, _, _, _, _, _, _, _, z⟩ := z
      exact z
end DL.K46
open PySem PySem.W PyProof.Rows in
set_option maxRecDepth 100000 in
set_option maxHeartbeats 0 in
theorem PySem.Challenge.cw_openlines_k46_bodies_written_holds : PySem.Challenge.rw_openlines_k46_bodies_written.Holds := by
  w_on; o_law; k_head; (case hw => w_witness2)
  k_fill
  refine DL.K46.walk (l := PySem.Challenge.rw_openlines_k46_bodies_written) rfl rfl (fun w h Y => PySem.W.kIn_of Y) ?F
  case F =>
    intro w mg fa h KX G hmg
    refine' DL.K46.all_mk KX G hmg (fun ns h => DL.K46.F_law_true ns h) ?a_is_name ?l_is_name ?c_is_name ?k_is_name ?a_is_row ?l_is_row ?c_is_row ?k_is_row ?a_show_body ?l_show_body ?c_show_body ?k_show_body ?a_read_body ?l_read_body ?c_read_body ?k_read_body ?a__law_bag ?l__law_bag ?c__law_bag ?k__law_bag ?a__law_take ?l__law_take ?c__law_take ?k__law_take ?a__law_names ?l__law_names ?c__law_names ?k__law_names ?a__law_body ?l__law_body ?c__law_body ?k__law_body ?a__law_odd_names ?l__law_odd_names ?c__law_odd_names ?k__law_odd_names ?a__law_written ?l__law_written ?c__law_written ?k__law_written ?a__law_is_name ?l__law_is_name ?c__law_is_name ?k__law_is_name ?a__law_row ?l__law_row ?c__law_row ?k__law_row ?a__law_due ?l__law_due ?c__law_due ?k__law_due ?a__law_told ?l__law_told ?c__law_told ?k__law_told ?a__law_bent ?l__law_bent ?c__law_bent ?k__law_bent ?a_law ?l_law ?c_law ?k_law ?aC_NoText ?xL_NoText ?sa_NoText ?eC_NoText ?tC_NoText ?kC_NoText ?iC_NoText ?sC_NoText ?hC_NoText ?ga_NoText ?gg_NoText ?no_NoText_at ?ai_NoText ?ti_NoText ?li_NoText ?ci_NoText ?ki_NoText ?g_DASH ?g_MOST_LETTERS ?g_MOST_ROWS ?z_abs ?z_all ?z_bool ?z_enumerate ?z_isinstance ?z_len ?z_max ?z_min ?z_range ?z_sorted ?z_str ?z_tuple 
    (case a_is_name => k_is)
    (case l_is_name => k_is)
    (case c_is_name => k_is)
    (case k_is_name => k_is)
    (case a_is_row => k_is)
    (case l_is_row => k_is)
    (case c_is_row => k_is)
    (case k_is_row => k_is)
    (case a_show_body => k_is)
    (case l_show_body => k_is)
    (case c_show_body => k_is)
    (case k_show_body => k_is)
    (case a_read_body => k_is)
    (case l_read_body => k_is)
    (case c_read_body => k_is)
    (case k_read_body => k_is)
    (case a__law_bag => k_is)
    (case l__law_bag => k_is)
    (case c__law_bag => k_is)
    (case k__law_bag => k_is)
    (case a__law_take => k_is)
    (case l__law_take => k_is)
    (case c__law_take => k_is)
    (case k__law_take => k_is)
    (case a__law_names => k_is)
    (case l__law_names => k_is)
    (case c__law_names => k_is)
    (case k__law_names => k_is)
    (case a__law_body => k_is)
    (case l__law_body => k_is)
    (case c__law_body => k_is)
    (case k__law_body => k_is)
    (case a__law_odd_names => k_is)
    (case l__law_odd_names => k_is)
    (case c__law_odd_names => k_is)
    (case k__law_odd_names => k_is)
    (case a__law_written => k_is)
    (case l__law_written => k_is)
    (case c__law_written => k_is)
    (case k__law_written => k_is)
    (case a__law_is_name => k_is)
    (case l__law_is_name => k_is)
    (case c__law_is_name => k_is)
    (case k__law_is_name => k_is)
    (case a__law_row => k_is)
    (case l__law_row => k_is)
    (case c__law_row => k_is)
    (case k__law_row => k_is)
    (case a__law_due => k_is)
    (case l__law_due => k_is)
    (case c__law_due => k_is)
    (case k__law_due => k_is)
    (case a__law_told => k_is)
    (case l__law_told => k_is)
    (case c__law_told => k_is)
    (case k__law_told => k_is)
    (case a__law_bent => k_is)
    (case l__law_bent => k_is)
    (case c__law_bent => k_is)
    (case k__law_bent => k_is)
    (case a_law => k_is)
    (case l_law => k_is)
    (case c_law => k_is)
    (case k_law => k_is)
    (case aC_NoText => k_is)
    (case xL_NoText => k_is)
    (case sa_NoText => k_is)
    (case eC_NoText => k_is)
    (case tC_NoText => k_is)
    (case kC_NoText => k_is)
    (case iC_NoText => k_is)
    (case sC_NoText => k_is)
    (case hC_NoText => k_is)
    (case ga_NoText => k_is)
    (case gg_NoText => k_is)
    (case no_NoText_at => k_is)
    (case ai_NoText => k_is)
    (case ti_NoText => k_is)
    (case li_NoText => k_is)
    (case ci_NoText => k_is)
    (case ki_NoText => k_is)
    (case g_DASH => k_is)
    (case g_MOST_LETTERS => k_is)
    (case g_MOST_ROWS => k_is)
    (case z_abs => k_is)
    (case z_all => k_is)
    (case z_bool => k_is)
    (case z_enumerate => k_is)
    (case z_isinstance => k_is)
    (case z_len => k_is)
    (case z_max => k_is)
    (case z_min => k_is)
    (case z_range => k_is)
    (case z_sorted => k_is)
    (case z_str => k_is)
    (case z_tuple => k_is)


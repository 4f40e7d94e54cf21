import PyProof.Rows.All
import Wide.All
import OpenK.AllK
import Wide.FinOn
import HandS.ForMost
import HandS.Conv
import HandS.Zip
import HandS.Walk
import HandS.IsInst
import HandS.Wide
import HandS.EndBits
import HandS.TupAny
import HandS.TupMul
import HandS.Style
import HandS.Deep
import HandS.NoneIn
import HandS.TupLe
import HandS.Dict
import KE.GoesMore
import KE.GoesZip
import HandS.Codes
import HandS.Star
import PyProof.EnumIter
import HandS.Exc
import HandS.ExcOwn
import HandS.WordsExc
import HandS.ExcField
import HandS.ExcInit
import KE.KExcIs
import HandS.SetFor
import HandS.Strs
import PySem.Challenge.RW_postvote_k38_values_and_bounds
set_option Elab.async false
set_option linter.all false
set_option maxRecDepth 100000
namespace Pv
open PySem PySem.Spec PyProof.Rows L2

/-! heaps -/
theorem upNew {H : Hp} {p b : Addr} {o z : HO} (np : H p = none) (h : H b = some z) : upd H p o b = some z := by
  rw [upd_ne (ne_of_none h np)]; exact h
theorem sameNew {H : Hp} {p : Addr} {o : HO} (np : H p = none) : Same H (upd H p o) := fun _ _ e => upNew np e

/-! a def that is called where no repr is under way -/
structure FnG (P : Program) (w : World) (K : PySem.W.Frag) (mg : Str → Option Value) (base : Heap) (k : Nat) (f : Addr) (fd : FuncData) (ps : List Str) (sp : Sp) : Prop where
  cnt : ∀ vs H Q E, sp vs H Q E → vs.length = ps.length
  go : ∀ (A : Around) (outer : List Env) (s : Shared) (H : Hp) (args : Args) (us : List Value) (vs : List V) (Q : VK) (E : XK),
    A.guards = some [] → Room k A → Env0 P w K mg base A outer s H → BindsTo s fd args (ps.zip us) → Vals vs us →
    sp vs H Q E → codeAny (model P w) A (.call (.ref f) args) (CR CX0 outer P w H s Q E) s
section
variable {P : Program} {w : World} {K : PySem.W.Frag} {mg : Str → Option Value} {base : Heap}
theorem okG {x qual : Str} {st : Stmt} {f : Addr} {fd : FuncData} {N ps : List Str} {k : Nat} {sp : Sp}
    (F : Fun K x qual st f fd) (S : FnScope N ps (defScope st)) (cnt : ∀ vs H Q E, sp vs H Q E → vs.length = ps.length)
    (hbody : ∀ (cdv : Value) (A : Around) (outer : List Env) (s : Shared) (H : Hp) (vs : List V) (Q : VK) (E : XK),
      A.guards = some [] → Room k (A.deeper (envOfC qual (defScope st) s.heap.objs.size f cdv)) → sp vs H Q E →
      ∃ t, PSs (cxOf CX0 P w K mg base N qual (defScope st) f cdv A outer s H E).nox (defBody st) t ∧
        t { nx := fun _ H' => Q .non H', rt := Q } (start N vs) H) : FnG P w K mg base (k + 1) f fd ps sp := by
  obtain ⟨oc, od, kV, doc, pm, an, cdv, ct, osl, rfl, lk, hcd⟩ := F.ex
  refine ⟨cnt, ?_⟩
  intro A outer s H args us vs Q E hgd hr e0 hb r hsp
  have hl := cnt vs H Q E hsp
  have kk : ∀ b o, base.get? b = some o → s.heap.get? b = some o := fun b o e => (e0.bs b o e).1
  have KX : K.In s.heap := e0.mod.kin.keeps kk
  have lim : s.heap.NoLimit := e0.mod.nolimit.keeps kk
  refine codeAny_call_function hr.depth (KX _ _ lk) rfl S.co S.gen rfl (PySem.W.codeRec_of KX hcd)
    (hb _ _ _ _ (wpAny_newFunctionEnv_cells S.kind ?_ ?_))
  · rintro ⟨n, v⟩ hy
    rcases S.par n (List.of_mem_zip hy).1 with q | q
    · left; exact q
    · right; exact ⟨q, PySem.W.cellsFrom_some _ _ _ (Or.inl q)⟩
  · intro env he s1 x
    cases he
    refine ⟨lim.keeps x.toInCall.keep, ?_⟩
    apply codeAny_func
    obtain ⟨t, ht0, hq⟩ := hbody cdv A outer s H vs Q E hgd (hr.deeper _) hsp
    have ht := ht0.nox
    have I := inv_start (CX := CX0) (f := f) (qual := qual) (E := E) S hr.hd e0 hl r x
    refine wpAny_mono (ht.run [] s1 (start N vs) H _ I hq) ?_ (fun _ _ z => z)
    intro fl s' hs
    cases fl with
    | ret u => obtain ⟨v, σ', H', J, rv, q⟩ := hs; exact ⟨v, H', J.os, J.bare, J.base, J.hok, rv, q⟩
    | next => obtain ⟨σ', H', J, q⟩ := hs; exact ⟨V.non, H', J.os, J.bare, J.base, J.hok, rfl, q⟩
    | brk => obtain ⟨_, _, _, q⟩ := hs; exact q.elim
    | cont => obtain ⟨_, _, _, q⟩ := hs; exact q.elim
end
section
variable {X : Cx} {k : Nat} {f : Addr} {fd : FuncData} {ps : List Str} {sp : Sp} {x : Str} {p pos : Pos} {e : Expr} {es : List Expr} {t : TA}
theorem pe_callG (F : FnG X.prog X.w X.K X.mg X.base k f fd ps sp) (hgd : X.A.guards = some []) (hr : Room k X.A) (hg : Gl X x)
    (hm : X.mg x = some (.ref f)) (hk : PySem.W.keepIn X.K (.ref f) = true) (hb : Binds X.K fd ps []) (ha : PA X (e :: es) t)
    (hdb : (x == ("__debug__" : Str)) = false := by decide) (he : starEach (e :: es) X.env = (false, eval e X.env) :: starEach es X.env := by rfl)
    (hpl : (backTo pos (starEach es X.env)).any (·.1) = false := by rfl) :
    PE X (.Call (.Name x p) (e :: es) [] pos) (tCall sp [] E0 t) := by
  constructor
  intro pins s σ H Q I h
  refine wpAny_Call_Name_kw (ld_glob I hg hm ?_ hdb)
  refine PySem.W.callWith_K (h₀ := X.base) I.ok.mod.kin hk (thn (ha.run pos pins s σ H _ I h) ?_) he hpl
  rintro us s1 ⟨vs, H1, I1, r, q⟩
  refine ⟨I1.kIn, ?_⟩
  have r2 : Vals (vs ++ []) (us ++ []) := r.append .nil
  have hl : (us ++ []).length = ps.length := by rw [← r2.length]; exact F.cnt _ _ _ _ q
  refine wpAny_call (codeAny_mono (F.go X.A X.stack s1 H1 ⟨us, []⟩ (us ++ []) (vs ++ []) Q E0 hgd hr I1.env0 (hb s1 us I1.kIn hl) r2 q) ?_)
  intro rr s' hq
  match rr, hq with
  | .error e, hq => exact hq.elim
  | .ok (.ret u), hq => exact I1.after hq
  | .ok .next, hq => exact hq.elim
  | .ok .brk, hq => exact hq.elim
  | .ok .cont, hq => exact hq.elim
end
theorem lawG {P : Program} {w : World} {K : PySem.W.Frag} {mg mb : Str → Option Value} {k : Nat} {fa a : Addr} {fd : FuncData} {x : Str} {sp : Sp}
    {s₁ : Shared} {vs : List Value} {ns : List Int} (KX : K.In s₁.heap) (hns : s₁.heap.Ns mainGlobals mg) (hb : s₁.heap.Ns builtinsNs mb)
    (hbb : ∀ x : Str, x ≠ "__name__" → mb x = bootBuiltins x) (hlim : s₁.heap.NoLimit) (hg : s₁.gens = #[])
    (ha : s₁.heap.get? a = some { cls := .type "list", data := .seq vs.toArray }) (hi : IntsAre vs ns) (hl : ns.length ≤ sizeLine)
    (hr : Room k callerA) (F : ∀ base : Heap, K.In base → base.Ns mainGlobals mg → FnG P w K mg base k fa fd [x] sp)
    (hbind : ∀ (s : Shared) (u : Value), BindsTo s fd ⟨[u], []⟩ [(x, u)])
    (hsp : ∀ H : Hp, Only H → SqL K H a (ns.map V.int) → sp [.ref a] H (fun v _ => v = .bl true) E0) :
    codeAny (model P w) callerA (.call (.ref fa) ⟨[.ref a], []⟩)
      (fun r s' => r = .ok (.ret (.bool true)) ∧ OldK s₁.heap s'.heap ∧ s'.os = s₁.os ∧ AllBare s'.gens) s₁ := by
  have rv := vals_ints hi
  have lenV := hi.length
  have core : ∀ H : Hp, Only H → SqL K H a (ns.map V.int) → HOk P w H s₁.heap → (∀ b, H b ≠ none → b = a) → (H a ≠ none → K.lookup a = none) →
      codeAny (model P w) callerA (.call (.ref fa) ⟨[.ref a], []⟩)
        (fun r s' => r = .ok (.ret (.bool true)) ∧ OldK s₁.heap s'.heap ∧ s'.os = s₁.os ∧ AllBare s'.gens) s₁ := by
    intro H hO hS hok hA hK
    have noD : ∀ {b : Addr} {o : Obj} {es : Array DictEntry} {ep : Nat}, s₁.heap.get? b = some o → o.data = .dict es ep → H b = none := by
      intro b o es ep e d
      match q : H b with
      | none => rfl
      | some u =>
        obtain rfl : b = a := hA b (by rw [q]; simp)
        rw [ha] at e
        cases e
        exact absurd d (by intro z; cases z)
    have nsK : ∀ {b : Addr} {m : Str → Option Value}, s₁.heap.Ns b m → (hidT s₁.heap H).Ns b m := by
      rintro b m ⟨o, es, ep, e, d, r⟩
      exact ⟨o, es, ep, hidT_get e (noD e d), d, r⟩
    have hKb : K.In (hidT s₁.heap H) := by
      intro b o e
      refine hidT_get (KX b o e) ?_
      match q : H b with
      | none => rfl
      | some u =>
        obtain rfl : b = a := hA b (by rw [q]; simp)
        rw [hK (by rw [q]; simp)] at e
        cases e
    have hM : Mod K mg (hidT s₁.heap H) := by
      obtain ⟨mc, h1, h2⟩ := hlim
      exact ⟨hKb, nsK hns, ⟨mb, nsK hb, hbb⟩, ⟨mc, nsK h1, h2⟩⟩
    have e0 : Env0 P w K mg (hidT s₁.heap H) callerA [] s₁ H :=
      ⟨rfl, hM, fun b o e => of_hidT e, Nat.le_of_eq (hidT_size _ _), trivial, (fun b hb => by cases hb), hok, .of_eq hg⟩
    refine codeAny_mono ((F _ hKb (nsK hns)).go callerA [] s₁ H ⟨[.ref a], []⟩ [.ref a] [.ref a] _ _ rfl hr e0 (hbind s₁ (.ref a)) (.cons rfl .nil) (hsp H hO hS)) ?_
    intro r s' h
    match r, h with
    | .error e, h => exact h.elim
    | .ok .next, h => exact h.elim
    | .ok .brk, h => exact h.elim
    | .ok .cont, h => exact h.elim
    | .ok (.ret u), h =>
      obtain ⟨v, H', os, bare, un, hok', r', q⟩ := h
      cases (show v = V.bl true from q)
      cases (show u = Value.bool true from r')
      refine ⟨rfl, OldK.of_keep ?_, os, bare⟩
      intro b o e
      match q : H b with
      | none => exact un.keep b o e q (by intro z; cases z) (by intro z; cases z)
      | some u =>
        rcases hO b with z | ⟨ob, xs, z⟩
        · rw [q] at z; cases z
        · obtain ⟨e1, _⟩ := hok b _ z
          obtain ⟨e2, _⟩ := hok' b _ (un.frzs b ob _ z)
          rw [e] at e1
          cases e1
          exact e2
  match hk : K.lookup a with
  | some o =>
    have e := KX a o hk
    rw [ha] at e
    cases e
    refine core (fun _ => none) (fun _ => .inl rfl) (.inr ⟨_, vs.toArray, _, hk, rfl, rfl, rfl, ?_, by simpa using rv⟩) (fun b u z => by cases z) (fun b z => absurd rfl z) (fun z => absurd rfl z)
    rw [List.size_toArray, lenV]; exact hl
  | none =>
    let HA : Hp := fun b => if b = a then some (.frz { cls := .type "list", data := .seq vs.toArray } (.lst (ns.map V.int))) else none
    have at_a : HA a = some (.frz { cls := .type "list", data := .seq vs.toArray } (.lst (ns.map V.int))) := if_pos rfl
    have at_ne : ∀ b, b ≠ a → HA b = none := fun b h => if_neg h
    refine core HA ?_ (.inl (.inr ⟨_, at_a⟩)) ?_ ?_ (fun _ => hk)
    · intro b
      by_cases hb : b = a
      · subst hb; exact .inr ⟨_, _, at_a⟩
      · exact .inl (at_ne b hb)
    · intro b u z
      by_cases hb : b = a
      · subst hb
        rw [at_a] at z
        cases z
        exact ⟨ha, by rw [List.length_map]; exact hl, vs, _, rv, ha⟩
      · rw [at_ne b hb] at z; cases z
    · intro b z
      by_cases hb : b = a
      · exact hb
      · exact absurd (at_ne b hb) z
theorem walkG {l : PySem.W.OpenLaw} {n k : Nat} {q : Program} {loose : List Str} {XP : (Str → Option Value) → Heap → Prop} {YP : World → Heap → Prop}
    {d : DefRec} {K : Params → PySem.W.Frag} {sp : World → Sp} {x : Str} (hn : l.most = some n) (hn2 : n ≤ sizeLine) (hdf : d.params.defaults = [])
    (hr : Room k callerA) (hY : ∀ (w : World) (h : Heap), YP w h → (K w.params).In h)
    (F : ∀ (w : World) (mg : Str → Option Value) (fa : Addr) (h : Heap), (K w.params).In h → h.Ns mainGlobals mg → mg d.name = some (.ref fa) →
      ∃ fd : FuncData, (∀ (s : Shared) (u : Value), BindsTo s fd ⟨[u], []⟩ [(x, u)]) ∧
        ∀ base : Heap, (K w.params).In base → base.Ns mainGlobals mg → FnG l.prog w (K w.params) mg base k fa fd [x] (sp w))
    (hsp : ∀ (w : World) (H : Hp) (a : Addr) (ns : List Int), ns.length ≤ n → (∀ z ∈ ns, Builtin.Int.intBits z ≤ 1048576) → Only H →
      SqL (K w.params) H a (ns.map V.int) → sp w [.ref a] H (fun v _ => v = .bl true) E0) :
    PySem.W.WalkO q loose XP YP l.row.toRowW d [] (fun f vs => PySem.call f vs) := by
  refine Att.attach_callB hn hdf ?_
  intro w s₀ s₁ mg mb fa o pm cd doc a vs ns G Y ho hd hcd hmg hobj hints hlen hbits hg
  have KX := hY w _ Y
  obtain ⟨fd, hb, hF⟩ := F w mg fa _ KX G.T.g hmg
  exact lawG KX G.T.g G.T.b G.T.builtins G.T.nolimit hg hobj hints (Nat.le_trans hlen hn2) hr hF hb (fun H hO hS => hsp w H a ns hlen hbits hO hS)

/-! repr of data -/
theorem call_reprD {X : Cx} (hg : X.A.guards = some []) (hu : X.A.units + 70 < cLine) : CallR X (.builtin "repr")
    (fun xs H Q => ∃ a d, xs = [.ref a] ∧ Dp X.K H (.ref a) d ∧ d.showable = true ∧ d.hasDict = false ∧ d.depth ≤ 60 ∧
      d.shown.length ≤ sizeLine ∧ Q (.str d.shown) H) := by
  intro pins s σ H xs us Q I r h
  obtain ⟨a, d, rfl, hd, h1, h2, h3, h4, q⟩ := h
  obtain ⟨u, rfl, rfl⟩ := vals1 r
  obtain ⟨as, rd⟩ := Dp.reads I d _ _ hd rfl
  exact repr_of_reads' rd h1 (PyData.noDict_hsm h2) hg (by omega) (fun _ _ e => e) (fun h' u tk hk => ⟨.str _, H, I.kept hk, ⟨_, rfl⟩, q⟩) h4
end Pv

namespace Pv
open PySem PySem.Spec PyProof.Rows L2
theorem tup_mul0 (l : Addr) (items : Array Value) (n : Nat) (dd : Option Addr) (sl : Array (Option Value)) (u : Tok) (hi : items.isEmpty = false) :
    Meets (Builtin.«tuple.__mul__» ⟨[.ref l, .int ((0 : Nat) : Int) u], []⟩) (fun _ R s => s.heap.get? l = some { cls := .type "tuple", dict := dd, data := .seq items n, slots := sl } ∧
      R (.ok (.ret (Value.ref s.heap.objs.size))) { s with heap := s.heap.push { cls := Value.type "tuple", data := Data.seq #[] }, toks := s.toks }) :=
  .of_wp fun prog w A R s h => by
    obtain ⟨hp, g, d, tk, os⟩ := s
    obtain ⟨hl, h⟩ := h
    have f1 := AutoSeq1.idx_int
    wp_walk using AutoSeq1.wpAny_loadPart' hl
    repeat (first
      | (refine wpAny_ite_false (decide_eq_false (by simp [hi])) ?_; wp_walk using AutoSeq1.wpAny_loadPart' hl)
      | (refine wpAny_ite_true (decide_eq_true (by simp [hi])) ?_; wp_walk using AutoSeq1.wpAny_loadPart' hl))
    exact ⟨_, rfl, h⟩
theorem tup_mul1 (l : Addr) (items : Array Value) (n : Nat) (dd : Option Addr) (sl : Array (Option Value)) (u : Tok) :
    Meets (Builtin.«tuple.__mul__» ⟨[.ref l, .int ((1 : Nat) : Int) u], []⟩) (fun _ R s => s.heap.get? l = some { cls := .type "tuple", dict := dd, data := .seq items n, slots := sl } ∧
      R (.ok (.ret (Value.ref l))) s) :=
  .of_wp fun prog w A R s h => by
    obtain ⟨hp, g, d, tk, os⟩ := s
    obtain ⟨hl, h⟩ := h
    have f1 := AutoSeq1.idx_int
    wp_walk using AutoSeq1.wpAny_loadPart' hl
    repeat (first
      | (refine wpAny_ite_false (decide_eq_false (by simp)) ?_; wp_walk using AutoSeq1.wpAny_loadPart' hl)
      | (refine wpAny_ite_true (decide_eq_true (by simp)) ?_; wp_walk using AutoSeq1.wpAny_loadPart' hl))
    exact ⟨_, rfl, h⟩
def rRepA (K : PySem.W.Frag) : R2 := fun x y H Q => ∃ (l : Addr) (k : Nat) (xs : List V), x = .ref l ∧ y = .int k ∧ SqT K H l xs ∧ xs ≠ [] ∧ k ≤ 1000 ∧ xs.length ≤ 1000 ∧
    (k = 1 → Q (.ref l) H) ∧ (k ≠ 1 → ∀ p, H p = none → Q (.ref p) (upd H p (.tup (List.replicate k xs).flatten)))
abbrev RC := List V → Hp → VK → Prop
def rLenQ (K : PySem.W.Frag) : RC := fun xs H Q => ∃ (p : Addr) (ys : List V), xs = [.ref p] ∧ (SqL K H p ys ∨ SqT K H p ys) ∧ Q (.int ys.length) H
def rTupQ (K : PySem.W.Frag) : RC := fun xs H Q => ∃ (p : Addr) (ys : List V), xs = [.ref p] ∧ ((SqL K H p ys ∧ ∀ l, H l = none → Q (.ref l) (upd H l (.tup ys))) ∨ (SqT K H p ys ∧ Q (.ref p) H))
section
variable {X : Cx}
theorem call_lenQ : CallR X (.builtin "len") (rLenQ X.K) := call_len_seq
theorem call_tupQ : CallR X (.type "tuple") (rTupQ X.K) := call_tuple_of
/-- o[i] of a list, for o[i] += e -/
theorem get_list : PGet X (fun o i H Q => ∃ (p : Addr) (xs : List V) (j : Nat) (v : V), o = .ref p ∧ i = .int j ∧ SqL X.K H p xs ∧ xs[j]? = some v ∧ Q v H) := by
  intro pins s σ H o i ov iv Q I ro ri h
  obtain ⟨p, xs, j, v, rfl, rfl, hq, he, q⟩ := h
  cases ro
  obtain ⟨t, rfl⟩ := ri
  obtain ⟨its, r, pl, hz⟩ := I.list hq
  obtain ⟨u, eu, ru⟩ := r.get he
  have hj : j < its.length := (List.getElem?_eq_some_iff.mp eu).1
  have hl := r.length
  have hn := line63
  exact wpAny_getItem_list pl.isList (by omega) (by omega) (by simpa using eu) ⟨v, H, I, ru, q⟩
/-- tuple * int -/
theorem op_repA : OpR X (binaryOp .Mult) (rRepA X.K) := by
  intro pins s σ H x y v u Q I rx ry h
  obtain ⟨l, k, xs, rfl, rfl, hT, hne, h2, hz, q1, q2⟩ := h
  by_cases hk2 : 2 ≤ k
  · exact op_repT pins s σ H _ _ v u Q I rx ry ⟨l, k, xs, rfl, rfl, hT, hne, by omega, by omega, hz, by simpa using q2 (by omega)⟩
  cases rx
  obtain ⟨t, rfl⟩ := ry
  obtain ⟨its, r, ⟨⟨cls, dd, data, sl⟩, ho, hc, n, hd⟩, hs⟩ := I.tuple hT
  simp only at hc hd
  subst hc hd
  have hi : its.toArray.isEmpty = false := by
    cases its with
    | nil => exact absurd (List.eq_nil_of_length_eq_zero (by simpa using r.length)) hne
    | cons a b => rfl
  refine wpAny_binaryOp_repeat_ref (T := "tuple") (U := "int") (by decide) ⟨_, ho, rfl⟩ (fun s' => typeIs_int s' k t) noFill_tuple_mul F.fills_int_mul F.slot_int_rmul repeat_tuple F.slot_int_index.lookup
    (call_meets F.slot_int_rmul (typeIs_int s k t) F.entry_int_rmul (F.args_int_rmul_2 _ _) (int_rmul_tuple k t l its.toArray n dd sl)
      ⟨ho, rfl, ⟨_, ho, rfl⟩, ?_⟩)
  obtain hk | hk : k = 0 ∨ k = 1 := by omega
  · subst hk
    refine call_meets F.slot_tuple_mul (show s.TypeIs (.ref l) "tuple" from ⟨_, ho, rfl⟩) F.entry_tuple_mul (F.args_tuple_mul_2 _ _) (tup_mul0 l its.toArray n dd sl t hi) ⟨ho, ?_⟩
    refine ⟨.ref s.heap.objs.size, _, I.laid (t' := s.toks) (o := .tup []) (fun b ob q => Heap.get?_push_of_some _ q) (Nat.le_refl _) ?_, rfl, q2 (by decide) _ (I.hok.fresh (Nat.le_refl _))⟩
    exact ⟨Nat.zero_le _, [], .nil, IsTup.new _ _⟩
  · subst hk
    exact call_meets F.slot_tuple_mul (show s.TypeIs (.ref l) "tuple" from ⟨_, ho, rfl⟩) F.entry_tuple_mul (F.args_tuple_mul_2 _ _) (tup_mul1 l its.toArray n dd sl t) ⟨ho, ⟨.ref l, H, I, rfl, q1 rfl⟩⟩
/-- sum of a tuple of ints -/
theorem call_sumT (hc : X.calm = true) : CallR X (.builtin "sum") (fun xs H Q => ∃ (a : Addr) (ns : List Int), xs = [.ref a] ∧ SqT X.K H a (ns.map V.int) ∧ Q (.int ns.sum) H) := by
  intro pins s σ H xs us Q I r h
  obtain ⟨a, ns, rfl, hT, q⟩ := h
  obtain ⟨u, rfl, rfl⟩ := vals1 r
  obtain ⟨its, rv, ht, hz⟩ := I.tuple hT
  have hi : IntsAre its ns := rv.ints
  obtain ⟨ys, e⟩ := hi.allInts.items
  have hn : numsOf (intItems ys).toList = ns := by rw [← e]; exact hi.numsOf
  rw [nums_intItems] at hn
  rw [e] at ht
  have ht' : s.heap.IsTuple a (intItems ys) := ht
  have hlt : a < s.heap.objs.size := by obtain ⟨_, z, _⟩ := ht; exact Heap.lt_size z
  refine call_sum_walkG (wpAny_pyIter_tuple ht' ?_)
  refine ⟨_, _, _, _, _, _, numAt ys, rfl, Walks.tuple (A := X.A.in1) (I.ok.hd hc) _ a (Nat.ne_of_lt hlt) (intItems ys), ⟨⟨_, Heap.get?_push_size _ rfl, rfl, rfl⟩, ht'.push _⟩, ?_, (fun _ _ => intItems_at), ?_⟩
  · intro b hb
    show b < (s.heap.push _).objs.size
    rw [Heap.size_push]
    simp only [List.mem_cons, List.not_mem_nil, or_false] at hb
    rcases hb with rfl | rfl
    · exact Nat.lt_succ_self _
    · exact Nat.lt_succ_of_lt hlt
  · intro h' tk t' hk
    have eq : preSum (numAt ys) (intItems ys).size = ns.sum := by
      rw [preSum_eq, List.take_of_length_le (by simp [intItems]), hn]
    rw [eq]
    refine ⟨.int _, H, I.kept (t' := tk) (h' := h') ?_, ⟨_, rfl⟩, q⟩
    intro b o eb
    refine hk b o (fun hm => ?_) (Heap.get?_push_of_some _ eb)
    exact absurd (Heap.lt_size eb) ((List.mem_singleton.mp hm) ▸ Nat.lt_irrefl _)
end
theorem walk_zipT {K : PySem.W.Frag} {a b : Addr} {xs ys : List V} {n : Nat} (hn : n = min xs.length ys.length) :
    Walk (RZ.ItzT K a b) n (fun H => SqT K H a xs ∧ SqT K H b ys) (YPair (fun i => xs[i]?) (fun i => ys[i]?)) := by
  subst hn
  constructor
  · rintro i H hi ⟨q1, q2⟩
    have h1 : i < xs.length := by omega
    have h2 : i < ys.length := by omega
    exact ⟨xs, ys, xs[i], ys[i], q1, q2, by simp [h1], by simp [h2]⟩
  · rintro H ⟨q1, q2⟩
    exact ⟨xs, ys, q1, q2, by omega⟩
  · rintro i H v H' _ ⟨q1, q2⟩ ⟨T, x, z, h1, h2, h3, h4, h5⟩
    exact ⟨T, x, z, h1, h2, h3, h4 xs q1, h5 ys q2⟩
end Pv

namespace Pv
open PySem PySem.Spec PyProof.Rows L2

/-! tuples never change -/
def TupK (H H' : Hp) : Prop := ∀ b xs, (H b = some (.tup xs) → H' b = some (.tup xs)) ∧ ∀ u, H b = some (.frz u (.tup xs)) → H' b = some (.frz u (.tup xs))
theorem TupK.refl (H : Hp) : TupK H H := fun _ _ => ⟨id, fun _ => id⟩
theorem TupK.trans {H H1 H2 : Hp} (a : TupK H H1) (b : TupK H1 H2) : TupK H H2 := fun c xs => ⟨fun h => (b c xs).1 ((a c xs).1 h), fun u h => (b c xs).2 u ((a c xs).2 u h)⟩
theorem TupK.rd {H H' : Hp} (s : TupK H H') {b : Addr} {xs : List V} (h : Rd H b (.tup xs)) : Rd H' b (.tup xs) := by
  rcases h with h | ⟨o, h⟩
  · exact .inl ((s _ _).1 h)
  · exact .inr ⟨o, (s _ _).2 o h⟩
theorem TupK.of {H H' : Hp} (s : Same H H') : TupK H H' := fun _ _ => ⟨fun h => s _ _ h, fun _ h => s _ _ h⟩
theorem TupK.new {H : Hp} {p : Addr} {o : HO} (np : H p = none) : TupK H (upd H p o) := .of (sameNew np)
theorem TupK.put {H : Hp} {p : Addr} {o : HO} {ys : List V} (e : H p = some (.lst ys)) : TupK H (upd H p o) := by
  intro b xs
  refine ⟨fun h => ?_, fun u h => ?_⟩
  · rw [upd_ne (ne_of h e (by intro z; cases z))]; exact h
  · rw [upd_ne (ne_of h e (by intro z; cases z))]; exact h
theorem TupK.sq {K : PySem.W.Frag} {H H' : Hp} {a : Addr} {xs : List V} (s : TupK H H') (h : SqT K H a xs) : SqT K H' a xs := by
  rcases h with h | h
  · exact .inl (s.rd h)
  · exact .inr h

mutual
def tupOnly : PyData → Bool
  | .none | .bool _ | .int _ | .str _ => true
  | .tuple xs => tupOnlyAll xs
  | .list _ | .dict _ => false
def tupOnlyAll : List PyData → Bool
  | [] => true
  | x :: xs => tupOnly x && tupOnlyAll xs
end
mutual
theorem TupK.dp {K : PySem.W.Frag} {H H' : Hp} (s : TupK H H') : ∀ (d : PyData) (v : V), tupOnly d = true → Dp K H v d → Dp K H' v d
  | .none, v, _, h => by cases h; exact .non
  | .bool b, v, _, h => by cases h; exact .bl _
  | .int b, v, _, h => by cases h; exact .int _
  | .str b, v, _, h => by cases h; exact .str _
  | .tuple xs, v, t, h => by
    cases h with
    | tup hs ha => exact .tup (s.sq hs) (TupK.dpAll s xs _ (by simpa [tupOnly] using t) ha)
  | .list _, v, t, _ => by simp [tupOnly] at t
  | .dict _, v, t, _ => by simp [tupOnly] at t
theorem TupK.dpAll {K : PySem.W.Frag} {H H' : Hp} (s : TupK H H') : ∀ (ds : List PyData) (vs : List V), tupOnlyAll ds = true → DpAll K H vs ds → DpAll K H' vs ds
  | [], vs, _, h => by cases h; exact .nil
  | d :: ds, vs, t, h => by
    have t' : tupOnly d = true ∧ tupOnlyAll ds = true := by simpa [tupOnlyAll] using t
    cases h with
    | cons h1 h2 => exact .cons (TupK.dp s d _ t'.1 h1) (TupK.dpAll s ds _ t'.2 h2)
end
theorem tupOnlyAll_of {ds : List PyData} (h : ∀ d ∈ ds, tupOnly d = true) : tupOnlyAll ds = true := by
  induction ds with
  | nil => simp [tupOnlyAll]
  | cons d ds ih => simp [tupOnlyAll, h d (by simp), ih (fun e he => h e (by simp [he]))]

/-! data -/
abbrev Gp := List Int × Int
def dI (ns : List Int) : PyData := .tuple (ns.map .int)
def dGrp (g : Gp) : PyData := .tuple [dI g.1, .int g.2]
def dInst (cs : List Int) (gs : List Gp) : PyData := .tuple [dI cs, .tuple (gs.map dGrp)]
def dAsg (rows : List (List Int)) : PyData := .tuple (rows.map dI)
theorem to_ints (ns : List Int) : tupOnlyAll (ns.map PyData.int) = true := tupOnlyAll_of (by intro d hd; obtain ⟨n, _, rfl⟩ := List.mem_map.mp hd; simp [tupOnly])
theorem to_dI (ns : List Int) : tupOnly (dI ns) = true := by simp [dI, tupOnly, to_ints]
theorem to_dGrp (g : Gp) : tupOnly (dGrp g) = true := by simp [dGrp, tupOnly, tupOnlyAll, to_dI]
theorem to_grps (gs : List Gp) : tupOnlyAll (gs.map dGrp) = true := tupOnlyAll_of (by intro d hd; obtain ⟨n, _, rfl⟩ := List.mem_map.mp hd; exact to_dGrp n)
theorem to_rows (rs : List (List Int)) : tupOnlyAll (rs.map dI) = true := tupOnlyAll_of (by intro d hd; obtain ⟨n, _, rfl⟩ := List.mem_map.mp hd; exact to_dI n)
theorem to_dInst (cs : List Int) (gs : List Gp) : tupOnly (dInst cs gs) = true := by simp [dInst, tupOnly, tupOnlyAll, to_dI, to_grps]
theorem to_dAsg (rs : List (List Int)) : tupOnly (dAsg rs) = true := by simp [dAsg, tupOnly, to_rows]

section
variable {K : PySem.W.Frag} {H : Hp}
theorem DpAll.len : ∀ {vs : List V} {ds : List PyData}, DpAll K H vs ds → vs.length = ds.length
  | _, _, .nil => rfl
  | _, _, .cons _ t => by simp [DpAll.len t]
theorem DpAll.ints : ∀ {ns : List Int} {vs : List V}, DpAll K H vs (ns.map PyData.int) → vs = ns.map V.int
  | [], _, h => by cases h; rfl
  | n :: ns, _, h => by
    cases h with
    | cons h1 h2 => cases h1; rw [DpAll.ints h2]; rfl
theorem dp_ints : ∀ (ns : List Int), DpAll K H (ns.map V.int) (ns.map PyData.int)
  | [] => .nil
  | n :: ns => .cons (.int n) (dp_ints ns)
theorem DpAll.at : ∀ {vs : List V} {ds : List PyData} {i : Nat} {v : V}, DpAll K H vs ds → vs[i]? = some v → ∃ d, ds[i]? = some d ∧ Dp K H v d
  | _, _, _, _, .nil, e => by simp at e
  | _, _, 0, _, .cons h _, e => by simp at e; subst e; exact ⟨_, rfl, h⟩
  | _, _, i + 1, v, .cons _ t, e => by
    obtain ⟨d, h1, h2⟩ := DpAll.at (i := i) t (by simpa using e)
    exact ⟨d, by simpa using h1, h2⟩
theorem DpAll.snoc : ∀ {vs : List V} {ds : List PyData} {v : V} {d : PyData}, DpAll K H vs ds → Dp K H v d → DpAll K H (vs ++ [v]) (ds ++ [d])
  | _, _, _, _, .nil, h => .cons h .nil
  | _, _, _, _, .cons h t, h' => .cons h (DpAll.snoc t h')
theorem sq_dI {a : Addr} {ns : List Int} (h : Dp K H (.ref a) (dI ns)) : SqT K H a (ns.map V.int) := by
  cases h with
  | tup hs ha => rw [DpAll.ints ha] at hs; exact hs
theorem dI_sq {a : Addr} {ns : List Int} (h : SqT K H a (ns.map V.int)) : Dp K H (.ref a) (dI ns) := .tup h (dp_ints ns)
theorem dI_ref {v : V} {ns : List Int} (h : Dp K H v (dI ns)) : ∃ a, v = .ref a ∧ SqT K H a (ns.map V.int) := by
  cases h with
  | tup hs ha => rw [DpAll.ints ha] at hs; exact ⟨_, rfl, hs⟩
theorem grp_ref {v : V} {g : Gp} (h : Dp K H v (dGrp g)) : ∃ a p, v = .ref a ∧ SqT K H a [.ref p, .int g.2] ∧ SqT K H p (g.1.map V.int) := by
  cases h with
  | tup hs ha =>
    cases ha with
    | cons h1 h2 =>
      cases h2 with
      | cons h3 h4 =>
        cases h4
        cases h3
        obtain ⟨p, rfl, hp⟩ := dI_ref h1
        exact ⟨_, p, rfl, hs, hp⟩
theorem inst_open {v : V} {cs : List Int} {gs : List Gp} (h : Dp K H v (dInst cs gs)) :
    ∃ a c g xs, v = .ref a ∧ SqT K H a [.ref c, .ref g] ∧ SqT K H c (cs.map V.int) ∧ SqT K H g xs ∧ DpAll K H xs (gs.map dGrp) := by
  cases h with
  | tup hs ha =>
    cases ha with
    | cons h1 h2 =>
      cases h2 with
      | cons h3 h4 =>
        cases h4
        obtain ⟨c, rfl, hc⟩ := dI_ref h1
        cases h3 with
        | tup hg hx => exact ⟨_, c, _, _, rfl, hs, hc, hg, hx⟩
theorem asg_open {v : V} {rs : List (List Int)} (h : Dp K H v (dAsg rs)) : ∃ a xs, v = .ref a ∧ SqT K H a xs ∧ DpAll K H xs (rs.map dI) := by
  cases h with
  | tup hg hx => exact ⟨_, _, rfl, hg, hx⟩
end

/-! what repr wants of data -/
structure Fine (k B : Nat) (d : PyData) : Prop where
  sh : d.showable = true
  nd : d.hasDict = false
  dp : d.depth ≤ k
  ln : d.shown.length ≤ B
theorem Fine.mono {k k' B B' : Nat} {d : PyData} (h : Fine k B d) (hk : k ≤ k') (hB : B ≤ B') : Fine k' B' d := ⟨h.sh, h.nd, Nat.le_trans h.dp hk, Nat.le_trans h.ln hB⟩
theorem fine_int {i : Int} (h : i.natAbs < 10 ^ 20) : Fine 0 25 (.int i) := by
  refine ⟨?_, by simp [PyData.hasDict], by simp [PyData.depth], ?_⟩
  · simp only [PyData.showable, decide_eq_true_eq]
    have : i.natAbs.log2 < 100 := by
      by_cases h0 : i.natAbs = 0
      · rw [h0]; decide
      · exact (Nat.log2_lt h0).mpr (Nat.lt_trans h (by decide))
    omega
  · have e := int_text_length_le10 (k := 20) (by decide) h
    show (Str.ofString (toString i)).length ≤ 25
    rw [PySem.ofString_length]
    omega
theorem fine_all {k B : Nat} : ∀ {xs : List PyData}, (∀ x ∈ xs, Fine k B x) → PyData.showableAll xs = true ∧ PyData.hasDictAll xs = false ∧ PyData.depthAll xs ≤ k ∧ ((PyData.shownAll xs).map (·.length)).sum ≤ xs.length * B ∧ (PyData.shownAll xs).length = xs.length
  | [], _ => by simp [PyData.showableAll, PyData.hasDictAll, PyData.depthAll, PyData.shownAll]
  | x :: xs, h => by
    obtain ⟨h1, h2, h3, h4, h5⟩ := fine_all (xs := xs) (fun y hy => h y (by simp [hy]))
    have hx := h x (by simp)
    refine ⟨by simp [PyData.showableAll, hx.sh, h1], by simp [PyData.hasDictAll, hx.nd, h2], ?_, ?_, ?_⟩
    · simp only [PyData.depthAll]; have := hx.dp; omega
    · simp only [PyData.shownAll, List.map_cons, List.sum_cons, List.length_cons]; have := hx.ln; rw [Nat.succ_mul]; omega
    · simp [PyData.shownAll, h5]
theorem fine_tup {k B n : Nat} {xs : List PyData} (h : ∀ x ∈ xs, Fine k B x) (hn : xs.length ≤ n) : Fine (k + 1) (n * (B + 2) + 3) (.tuple xs) := by
  obtain ⟨h1, h2, h3, h4, h5⟩ := fine_all h
  refine ⟨by simp only [PyData.showable]; exact h1, by simp only [PyData.hasDict]; exact h2, by simp only [PyData.depth]; omega, ?_⟩
  simp only [PyData.shown]
  have e := tupleText_len_le (PyData.shownAll xs)
  rw [h5] at e
  have m : xs.length * (B + 2) ≤ n * (B + 2) := Nat.mul_le_mul_right _ hn
  rw [Nat.mul_add] at m
  omega
theorem fine_lst {k B n : Nat} {xs : List PyData} (h : ∀ x ∈ xs, Fine k B x) (hn : xs.length ≤ n) : Fine (k + 1) (n * (B + 2) + 3) (.list xs) := by
  obtain ⟨h1, h2, h3, h4, h5⟩ := fine_all h
  refine ⟨by simp only [PyData.showable]; exact h1, by simp only [PyData.hasDict]; exact h2, by simp only [PyData.depth]; omega, ?_⟩
  simp only [PyData.shown]
  have e := listText_len_le (PyData.shownAll xs)
  rw [h5] at e
  have m : xs.length * (B + 2) ≤ n * (B + 2) := Nat.mul_le_mul_right _ hn
  rw [Nat.mul_add] at m
  omega
theorem fine_dI {ns : List Int} {n : Nat} (h : ∀ i ∈ ns, i.natAbs < 10 ^ 20) (hn : ns.length ≤ n) : Fine 1 (n * 27 + 3) (dI ns) := by
  refine fine_tup (B := 25) ?_ (by simpa using hn)
  intro d hd
  obtain ⟨i, hi, rfl⟩ := List.mem_map.mp hd
  exact fine_int (h i hi)

/-! the drawing state of the law: a list of the cells, the rests and the turn -/
structure DS (H : Hp) (st c r : Addr) (t : Nat) : Prop where
  hs : H st = some (.lst [.ref c, .ref r, .int t])
  ex : ∃ cells rests : List Int, H c = some (.lst (cells.map V.int)) ∧ H r = some (.lst (rests.map V.int)) ∧ cells.length = rests.length ∧
    0 < cells.length ∧ cells.length ≤ 100 ∧ ∀ x ∈ rests, 0 ≤ x
  n1 : c ≠ r
  n2 : st ≠ c
  n3 : st ≠ r
def Ext (st r : Addr) (H H' : Hp) : Prop := ∀ b o, H b = some o → b ≠ st → b ≠ r → H' b = some o
section
variable {H H1 H2 : Hp} {st c r p : Addr} {t : Nat} {o : HO}
theorem Ext.trans (a : Ext st r H H1) (b : Ext st r H1 H2) : Ext st r H H2 := fun x o h n1 n2 => b x o (a x o h n1 n2) n1 n2
theorem Ext.of (s : Same H H1) : Ext st r H H1 := fun b o h _ _ => s b o h
theorem Ext.tup (d : DS H st c r t) (e : Ext st r H H1) : TupK H H1 := by
  obtain ⟨cells, rests, hc, hr, _⟩ := d.ex
  intro b xs
  refine ⟨fun h => ?_, fun u h => ?_⟩
  · exact e _ _ h (ne_of h d.hs (by intro z; cases z)) (ne_of h hr (by intro z; cases z))
  · exact e _ _ h (ne_of h d.hs (by intro z; cases z)) (ne_of h hr (by intro z; cases z))
theorem DS.same (d : DS H st c r t) (s : Same H H1) : DS H1 st c r t := by
  obtain ⟨cells, rests, hc, hr, q⟩ := d.ex
  exact ⟨s _ _ d.hs, ⟨cells, rests, s _ _ hc, s _ _ hr, q⟩, d.n1, d.n2, d.n3⟩
theorem DS.new (d : DS H st c r t) (np : H p = none) : DS (upd H p o) st c r t := d.same (sameNew np)
theorem DS.put (d : DS H st c r t) (h1 : p ≠ st) (h2 : p ≠ c) (h3 : p ≠ r) : DS (upd H p o) st c r t := by
  obtain ⟨cells, rests, hc, hr, q⟩ := d.ex
  exact ⟨by rw [upd_ne h1.symm]; exact d.hs, ⟨cells, rests, by rw [upd_ne h2.symm]; exact hc, by rw [upd_ne h3.symm]; exact hr, q⟩, d.n1, d.n2, d.n3⟩
/-- an address that was free while the state stood is none of its own -/
theorem DS.off (d : DS H st c r t) (np : H p = none) : p ≠ st ∧ p ≠ c ∧ p ≠ r := by
  obtain ⟨cells, rests, hc, hr, q⟩ := d.ex
  exact ⟨(ne_of_none d.hs np).symm, (ne_of_none hc np).symm, (ne_of_none hr np).symm⟩
end
end Pv

namespace Pv
open PySem PySem.Spec PyProof.Rows L2

/-! data of any kind: lists stand off the drawing state, dicts have leaves alone -/
def kD : Key → PyData
  | .inl i => .int i
  | .inr x => .str x
mutual
inductive Dq (K : PySem.W.Frag) (st r : Addr) (H : Hp) : V → PyData → Prop
  | non : Dq K st r H .non .none
  | bl (b : Bool) : Dq K st r H (.bl b) (.bool b)
  | int (i : Int) : Dq K st r H (.int i) (.int i)
  | str (x : Str) : Dq K st r H (.str x) (.str x)
  | lst {a : Addr} {xs : List V} {ds : List PyData} : H a = some (.lst xs) → a ≠ st → a ≠ r → a ≠ sysModules → DqAll K st r H xs ds → Dq K st r H (.ref a) (.list ds)
  | tup {a : Addr} {xs : List V} {ds : List PyData} : SqT K H a xs → DqAll K st r H xs ds → Dq K st r H (.ref a) (.tuple ds)
  | dct {a : Addr} {kvs : List (Key × Int)} : H a = some (.dK (kvs.map fun p => (p.1, V.int p.2))) → Dq K st r H (.ref a) (.dict (kvs.map fun p => (kD p.1, .int p.2)))
inductive DqAll (K : PySem.W.Frag) (st r : Addr) (H : Hp) : List V → List PyData → Prop
  | nil : DqAll K st r H [] []
  | cons {v : V} {vs : List V} {d : PyData} {ds : List PyData} : Dq K st r H v d → DqAll K st r H vs ds → DqAll K st r H (v :: vs) (d :: ds)
end
theorem keys_reads {P : Program} {w : World} {h : Heap} : ∀ {kvs : List (Key × Int)} {vs : List (Key × Value)} {es : List DictEntry}, KV (kvs.map fun p => (p.1, V.int p.2)) vs → Pairs (mixKind P w) es vs →
    ReadsAll h (es.map (·.key)) ((kvs.map fun p => (kD p.1, PyData.int p.2)).map (·.1)) [] ∧ ReadsAll h (es.map (·.val)) ((kvs.map fun p => (kD p.1, PyData.int p.2)).map (·.2)) []
  | [], _, _, rk, rp => by
    cases rk
    cases rp
    exact ⟨.nil, .nil⟩
  | p :: kvs, _, _, rk, rp => by
    obtain ⟨pk, pi⟩ := p
    rw [List.map_cons] at rk
    cases rk with
    | @cons _ q _ qs hq tq =>
      obtain ⟨qk, qv⟩ := q
      obtain ⟨h1, h2⟩ := hq
      simp only at h1 h2
      subst h1
      cases rp with
      | @cons e _ es _ he hv tp =>
        obtain ⟨r1, r2⟩ := keys_reads (h := h) tq tp
        simp only at he hv
        obtain ⟨t, ht⟩ := h2
        subst ht
        refine ⟨?_, ?_⟩
        · have k1 : Reads h e.key (kD pk) [] := by
            rcases keyIs_shape (show keyIs pk e.key = true from he) with ⟨i, t, e1, e2⟩ | ⟨x, t, e1, e2⟩
            · rw [e1, e2]; exact .int i t
            · rw [e1, e2]; exact .str x t
          exact ReadsAll.cons k1 r1
        · have k2 : Reads h e.val (.int pi) [] := by rw [hv]; exact .int pi t
          exact ReadsAll.cons k2 r2
section
variable {X : Cx} {pins : List (Addr × Obj)} {σ : L2.St} {H : Hp} {s : Shared} {st r : Addr}
mutual
theorem Dq.reads (I : Inv X pins σ H s) : ∀ (d : PyData) (v : V) (u : Value), Dq X.K st r H v d → RelV v u → ∃ as, Reads s.heap u d as ∧ sysModules ∉ as
  | .none, _, _, h, q => by
    cases h; cases q; exact ⟨[], .none, by simp⟩
  | .bool b, _, _, h, q => by
    cases h; cases q; exact ⟨[], .bool b, by simp⟩
  | .int i, _, _, h, q => by
    cases h; obtain ⟨t, e⟩ := q; subst e; exact ⟨[], .int i t, by simp⟩
  | .str x, _, _, h, q => by
    cases h; obtain ⟨t, e⟩ := q; subst e; exact ⟨[], .str x t, by simp⟩
  | .list ds, _, _, h, q => by
    cases h with
    | lst e _ _ n hd =>
      cases q
      obtain ⟨its, rel, ⟨o, m, ho, hc, _, hm⟩, _⟩ := I.list (SqL.of e)
      obtain ⟨as, h1, h2⟩ := DqAll.reads I ds _ its hd rel
      exact ⟨_, .list ho hc hm h1, by simp only [List.mem_cons, not_or]; exact ⟨fun z => n z.symm, h2⟩⟩
  | .tuple ds, _, _, h, q => by
    cases h with
    | tup e hd =>
      cases q
      obtain ⟨its, rel, ⟨o, ho, hc, m, hm⟩, _⟩ := I.tuple e
      obtain ⟨as, h1, h2⟩ := DqAll.reads I ds _ its hd rel
      exact ⟨_, .tuple ho hc hm h1, h2⟩
  | .dict _, _, _, h, q => by
    cases h with
    | dct e =>
      cases q
      obtain ⟨_, nb, vs, rk, o, es, ep, ho, hx, hm, _, rp, _⟩ := dk_of I.hok e
      obtain ⟨h1, h2⟩ := keys_reads (h := s.heap) rk rp
      exact ⟨_, .dict ho hx.1 hm h1 h2, by simp only [List.nil_append, List.append_nil, List.mem_singleton, List.mem_cons, List.not_mem_nil, or_false]; exact fun z => absurd z.symm (by simpa using nb)⟩
theorem DqAll.reads (I : Inv X pins σ H s) : ∀ (ds : List PyData) (vs : List V) (us : List Value), DqAll X.K st r H vs ds → Vals vs us → ∃ as, ReadsAll s.heap us ds as ∧ sysModules ∉ as
  | [], _, _, h, q => by
    cases h; cases q; exact ⟨[], .nil, by simp⟩
  | d :: ds, _, _, h, q => by
    cases h with
    | cons h1 h2 =>
      cases q with
      | cons q1 q2 =>
        obtain ⟨as, e1, n1⟩ := Dq.reads I d _ _ h1 q1
        obtain ⟨bs, e2, n2⟩ := DqAll.reads I ds _ _ h2 q2
        exact ⟨_, .cons e1 e2, by simp only [List.mem_append, not_or]; exact ⟨n1, n2⟩⟩
end
end
/-- repr of such data -/
theorem call_reprQ {X : Cx} (hg : X.A.guards = some []) (hu : X.A.units + 70 < cLine) : CallR X (.builtin "repr")
    (fun xs H Q => ∃ a d st r, xs = [.ref a] ∧ Dq X.K st r H (.ref a) d ∧ d.showable = true ∧ d.depth ≤ 60 ∧ d.shown.length ≤ sizeLine ∧ Q (.str d.shown) H) := by
  intro pins s σ H xs us Q I rv h
  obtain ⟨a, d, st, r, rfl, hd, h1, h3, h4, q⟩ := h
  obtain ⟨u, rfl, rfl⟩ := vals1 rv
  obtain ⟨as, rd, nm⟩ := Dq.reads I d _ _ hd rfl
  exact repr_of_reads' rd h1 (fun _ => nm) hg (by omega) (fun _ _ e => e) (fun h' u tk hk => ⟨.str _, H, I.kept hk, ⟨_, rfl⟩, q⟩) h4

/-! how it lasts -/
section
variable {K : PySem.W.Frag} {st r c : Addr} {H H' : Hp}
structure Lasts (st r : Addr) (H H' : Hp) : Prop where
  tk : TupK H H'
  ls : ∀ a xs, H a = some (.lst xs) → a ≠ st → a ≠ r → H' a = some (.lst xs)
  dk : ∀ a kvs, H a = some (.dK kvs) → H' a = some (.dK kvs)
theorem Lasts.refl : Lasts st r H H := ⟨.refl _, fun _ _ e _ _ => e, fun _ _ e => e⟩
theorem Lasts.of (s : Same H H') : Lasts st r H H' := ⟨.of s, fun a xs e _ _ => s _ _ e, fun a kvs e => s _ _ e⟩
theorem Lasts.ext {t : Nat} (d : DS H st c r t) (x : Ext st r H H') : Lasts st r H H' := by
  refine ⟨x.tup d, fun a xs e n1 n2 => x _ _ e n1 n2, fun a kvs e => ?_⟩
  obtain ⟨cells, rests, hc, hr, _⟩ := d.ex
  exact x _ _ e (ne_of e d.hs (by intro z; cases z)) (ne_of e hr (by intro z; cases z))
theorem Lasts.trans {H2 : Hp} (a : Lasts st r H H') (b : Lasts st r H' H2) : Lasts st r H H2 :=
  ⟨a.tk.trans b.tk, fun p xs e n1 n2 => b.ls _ _ (a.ls _ _ e n1 n2) n1 n2, fun p kvs e => b.dk _ _ (a.dk _ _ e)⟩
theorem Lasts.new {p : Addr} {o : HO} (np : H p = none) : Lasts st r H (upd H p o) := .of (sameNew np)
mutual
theorem Dq.lasts (l : Lasts st r H H') : ∀ {d : PyData} {v : V}, Dq K st r H v d → Dq K st r H' v d
  | .none, _, h => by cases h; exact .non
  | .bool _, _, h => by cases h; exact .bl _
  | .int _, _, h => by cases h; exact .int _
  | .str _, _, h => by cases h; exact .str _
  | .list _, _, h => by
    cases h with
    | lst e n1 n2 n3 hd => exact .lst (l.ls _ _ e n1 n2) n1 n2 n3 (DqAll.lasts l hd)
  | .tuple _, _, h => by
    cases h with
    | tup e hd => exact .tup (l.tk.sq e) (DqAll.lasts l hd)
  | .dict _, _, h => by
    cases h with
    | dct e => exact .dct (l.dk _ _ e)
theorem DqAll.lasts (l : Lasts st r H H') : ∀ {ds : List PyData} {vs : List V}, DqAll K st r H vs ds → DqAll K st r H' vs ds
  | [], _, h => by cases h; exact .nil
  | _ :: _, _, h => by
    cases h with
    | cons h1 h2 => exact .cons (Dq.lasts l h1) (DqAll.lasts l h2)
end
mutual
theorem Dq.of_dp : ∀ {d : PyData} {v : V}, tupOnly d = true → Dp K H v d → Dq K st r H v d
  | .none, _, _, h => by cases h; exact .non
  | .bool _, _, _, h => by cases h; exact .bl _
  | .int _, _, _, h => by cases h; exact .int _
  | .str _, _, _, h => by cases h; exact .str _
  | .list _, _, t, _ => by simp [tupOnly] at t
  | .tuple _, _, t, h => by
    cases h with
    | tup e hd => exact .tup e (DqAll.of_dp (by simpa [tupOnly] using t) hd)
  | .dict _, _, t, _ => by simp [tupOnly] at t
theorem DqAll.of_dp : ∀ {ds : List PyData} {vs : List V}, tupOnlyAll ds = true → DpAll K H vs ds → DqAll K st r H vs ds
  | [], _, _, h => by cases h; exact .nil
  | d :: ds, _, t, h => by
    have t' : tupOnly d = true ∧ tupOnlyAll ds = true := by simpa [tupOnlyAll] using t
    cases h with
    | cons h1 h2 => exact .cons (Dq.of_dp t'.1 h1) (DqAll.of_dp t'.2 h2)
theorem Dq.to_dp : ∀ {d : PyData} {v : V}, tupOnly d = true → Dq K st r H v d → Dp K H v d
  | .none, _, _, h => by cases h; exact .non
  | .bool _, _, _, h => by cases h; exact .bl _
  | .int _, _, _, h => by cases h; exact .int _
  | .str _, _, _, h => by cases h; exact .str _
  | .list _, _, t, _ => by simp [tupOnly] at t
  | .tuple _, _, t, h => by
    cases h with
    | tup e hd => exact .tup e (DqAll.to_dp (by simpa [tupOnly] using t) hd)
  | .dict _, _, t, _ => by simp [tupOnly] at t
theorem DqAll.to_dp : ∀ {ds : List PyData} {vs : List V}, tupOnlyAll ds = true → DqAll K st r H vs ds → DpAll K H vs ds
  | [], _, _, h => by cases h; exact .nil
  | d :: ds, _, t, h => by
    have t' : tupOnly d = true ∧ tupOnlyAll ds = true := by simpa [tupOnlyAll] using t
    cases h with
    | cons h1 h2 => exact .cons (Dq.to_dp t'.1 h1) (DqAll.to_dp t'.2 h2)
end
theorem DqAll.len : ∀ {vs : List V} {ds : List PyData}, DqAll K st r H vs ds → vs.length = ds.length
  | _, _, .nil => rfl
  | _, _, .cons _ t => by simp [DqAll.len t]
theorem DqAll.at : ∀ {vs : List V} {ds : List PyData} {i : Nat} {v : V}, DqAll K st r H vs ds → vs[i]? = some v → ∃ d, ds[i]? = some d ∧ Dq K st r H v d
  | _, _, _, _, .nil, e => by simp at e
  | _, _, 0, _, .cons h _, e => by simp at e; subst e; exact ⟨_, rfl, h⟩
  | _, _, i + 1, v, .cons _ t, e => by
    obtain ⟨d, h1, h2⟩ := DqAll.at (i := i) t (by simpa using e)
    exact ⟨d, by simpa using h1, h2⟩
theorem DqAll.app : ∀ {vs ws : List V} {ds es : List PyData}, DqAll K st r H vs ds → DqAll K st r H ws es → DqAll K st r H (vs ++ ws) (ds ++ es)
  | _, _, _, _, .nil, h => h
  | _, _, _, _, .cons h t, h' => .cons h (DqAll.app t h')
theorem DqAll.snoc {vs : List V} {ds : List PyData} {v : V} {d : PyData} (h : DqAll K st r H vs ds) (h' : Dq K st r H v d) : DqAll K st r H (vs ++ [v]) (ds ++ [d]) := h.app (.cons h' .nil)
theorem DqAll.rev : ∀ {vs : List V} {ds : List PyData}, DqAll K st r H vs ds → DqAll K st r H vs.reverse ds.reverse
  | _, _, .nil => .nil
  | _, _, .cons h t => by rw [List.reverse_cons, List.reverse_cons]; exact (DqAll.rev t).snoc h
theorem DqAll.take : ∀ {vs : List V} {ds : List PyData} (n : Nat), DqAll K st r H vs ds → DqAll K st r H (vs.take n) (ds.take n)
  | _, _, 0, _ => .nil
  | _, _, _ + 1, .nil => .nil
  | _, _, n + 1, .cons h t => .cons h (DqAll.take n t)
theorem DqAll.drop : ∀ {vs : List V} {ds : List PyData} (n : Nat), DqAll K st r H vs ds → DqAll K st r H (vs.drop n) (ds.drop n)
  | _, _, 0, h => h
  | _, _, _ + 1, .nil => .nil
  | _, _, n + 1, .cons _ t => DqAll.drop n t
/-- its type -/
def tyN : PyData → String
  | .none => "NoneType"
  | .bool _ => "bool"
  | .int _ => "int"
  | .str _ => "str"
  | .list _ => "list"
  | .tuple _ => "tuple"
  | .dict _ => "dict"
theorem Dq.ty {d : PyData} {v : V} (h : Dq K st r H v d) : TyX K H v (.type (tyN d)) := by
  cases h with
  | non => exact .base .non
  | bl b => exact .base (.bl b)
  | int i => exact .base (.int i)
  | str x => exact .base (.str x)
  | lst e => exact .base (.lst e)
  | tup e _ =>
    rcases e with (e | ⟨o, e⟩) | ⟨o, its, n, e, hc, _⟩
    · exact .base (.tup e)
    · exact .fTuple e
    · exact .kTuple e hc
  | dct e => exact .base (.dK e)
def isTup : PyData → Bool
  | .tuple _ => true
  | _ => false
def isInt : PyData → Bool
  | .int _ => true
  | .bool _ => true
  | _ => false
def isBool : PyData → Bool
  | .bool _ => true
  | _ => false
theorem kit_tup (d : PyData) : PySem.W.kitOne K (.type (tyN d)) (.type "tuple") = some (isTup d) := by
  have key : ∀ a b : String, ∀ x : Bool, kitB a b = some x → PySem.W.kitOne K (.type a) (.type b) = some x := fun _ _ _ h => kit_ty h
  cases d
  · exact key "NoneType" "tuple" false (by decide +kernel)
  · exact key "bool" "tuple" false (by decide +kernel)
  · exact key "int" "tuple" false (by decide +kernel)
  · exact key "str" "tuple" false (by decide +kernel)
  · exact key "list" "tuple" false (by decide +kernel)
  · exact key "tuple" "tuple" true (by decide +kernel)
  · exact key "dict" "tuple" false (by decide +kernel)
theorem kit_int (d : PyData) : PySem.W.kitOne K (.type (tyN d)) (.type "int") = some (isInt d) := by
  have key : ∀ a b : String, ∀ x : Bool, kitB a b = some x → PySem.W.kitOne K (.type a) (.type b) = some x := fun _ _ _ h => kit_ty h
  cases d
  · exact key "NoneType" "int" false (by decide +kernel)
  · exact key "bool" "int" true (by decide +kernel)
  · exact key "int" "int" true (by decide +kernel)
  · exact key "str" "int" false (by decide +kernel)
  · exact key "list" "int" false (by decide +kernel)
  · exact key "tuple" "int" false (by decide +kernel)
  · exact key "dict" "int" false (by decide +kernel)
theorem kit_bool (d : PyData) : PySem.W.kitOne K (.type (tyN d)) (.type "bool") = some (isBool d) := by
  have key : ∀ a b : String, ∀ x : Bool, kitB a b = some x → PySem.W.kitOne K (.type a) (.type b) = some x := fun _ _ _ h => kit_ty h
  cases d
  · exact key "NoneType" "bool" false (by decide +kernel)
  · exact key "bool" "bool" true (by decide +kernel)
  · exact key "int" "bool" false (by decide +kernel)
  · exact key "str" "bool" false (by decide +kernel)
  · exact key "list" "bool" false (by decide +kernel)
  · exact key "tuple" "bool" false (by decide +kernel)
  · exact key "dict" "bool" false (by decide +kernel)
end
/-! a new list, whose address is none of the machine's own -/
def tLstS (t : TA) : TE := fun σ H Q => t σ H fun xs H1 => xs.length ≤ sizeLine ∧ ∀ p, H1 p = none → p ≠ sysModules → Q (.ref p) (upd H1 p (.lst xs))
section
variable {X : Cx} {es : List Expr} {pos : Pos} {t : TA}
theorem pe_lstS (h : PA X es t) : PE X (.List es pos) (tLstS t) := by
  constructor
  intro pins s σ H Q I hq
  refine wpAny_List_spliced (thn (h.run pos pins s σ H _ I hq) ?_)
  rintro us s1 ⟨xs, H1, I1, rel, z, q⟩
  refine ⟨by rw [← rel.length]; exact z, .ref s1.heap.objs.size, _, ?_, rfl, q _ (I1.hok.fresh (Nat.le_refl _)) (Nat.ne_of_gt I1.big)⟩
  exact I1.laid (t' := s1.toks) (fun b u e => Heap.get?_push_of_some _ e) (Nat.le_refl _) ⟨z, us, 0, rel, Heap.get?_push_size _ rfl⟩
def rListS (K : PySem.W.Frag) : RC := fun xs H Q => ∃ (p : Addr) (ys : List V), xs = [.ref p] ∧ SqT K H p ys ∧ ∀ l, H l = none → l ≠ sysModules → Q (.ref l) (upd H l (.lst ys))
theorem call_listS : CallR X (.type "list") (rListS X.K) := by
  intro pins s σ H xs us Q I rel h
  obtain ⟨p, ys, e, hq, q⟩ := h
  subst e
  obtain ⟨u, e, rx⟩ := vals1 rel
  subst e
  cases rx
  obtain ⟨its, r', ⟨o, ho, hc, n, hd⟩, hz⟩ := I.tuple hq
  have hlen := r'.length
  refine call_list_seq p (.inr rfl) ho hc hd (fun h' c' kp e => ?_) (by simp only [List.size_toArray]; omega)
  exact ⟨.ref s.heap.objs.size, _, I.laid (t' := s.toks) (o := .lst ys) kp (Nat.le_refl _) ⟨hz, its, c', r', e⟩, rfl, q _ (I.hok.fresh (Nat.le_refl _)) (Nat.ne_of_gt I.big)⟩
end
end Pv

namespace Pv
open PySem PySem.Spec PyProof.Rows L2
/-! enumerate of a tuple -/
theorem enumT_new (l : Addr) (items : Array Value) (n : Nat) (dct : Option Addr) (sl : Array (Option Value)) :
    Meets (Builtin.«enumerate.__new__» ⟨[.type "enumerate", .ref l], []⟩) (fun _ R s =>
      s.heap.get? l = some { cls := .type "tuple", dict := dct, data := .seq items n, slots := sl } ∧
      R (.ok (.ret (.ref (s.heap.push { cls := .type "tuple_iterator", data := .fields #[.ref l, .int 0 0] }).objs.size)))
        { s with heap := Heap.push (s.heap.push { cls := .type "tuple_iterator", data := .fields #[.ref l, .int 0 0] }) { cls := .type "enumerate", data := .fields #[.none, .bool false, .ref s.heap.objs.size, rawInt 0, .none, .none] } }) :=
  .of_wp fun prog w A R s h => by
    obtain ⟨hp, g, d, tk, os⟩ := s
    obtain ⟨hl, h⟩ := h
    have hsub := sub_enumerate
    have hL : Heap.IsTuple (Shared.heap ⟨hp, g, d, tk, os⟩) l items := ⟨_, hl, rfl, n, rfl⟩
    wp_walk using AutoSeq1.wpAny_loadPart' hl
    refine wpAny_stack_any fun st => wpAny_pure ?_
    split
    · rename_i c _ _ _ _ _
      cases (c == Value.type "enumerate") <;>
        (wp_walk using AutoSeq1.wpAny_loadPart' hl, wpAny_pyIter_tuple hL; exact ⟨_, rfl, h⟩)
    · wp_walk using AutoSeq1.wpAny_loadPart' hl, wpAny_pyIter_tuple hL
      exact ⟨_, rfl, h⟩
theorem call_enumT {prog : Program} {w : World} {A : Around} {E : Value → Shared → Prop} {s : Shared} {l : Addr} {items : Array Value} {Q : Value → Shared → Prop} (hL : s.heap.IsTuple l items)
    (h : ∀ h', IsEnum h' (s.heap.objs.size + 1) s.heap.objs.size 0 .none → h'.IsTupleIter s.heap.objs.size l 0 →
      (∀ b o, s.heap.get? b = some o → h'.get? b = some o) → Q (.ref (s.heap.objs.size + 1)) { s with heap := h' }) :
    wpAny (model prog w) A (call (.type "enumerate") [.ref l]) Q E s := by
  obtain ⟨⟨c, dct, dt, sl⟩, hl, hc, n, hd⟩ := hL
  simp only at hc hd
  subst hc hd
  refine callType_new F.called_enumerate (by decide) (F.typeCall_enumerate_1 _) (F.newCall_enumerate_1 _) (fun obj => F.args_object_init_2 obj _) F.entry_enumerate_new (enumT_new l items n dct sl) ⟨hl, ?_⟩
  have hz : (s.heap.push { cls := .type "tuple_iterator", data := .fields #[.ref l, .int 0 0] }).objs.size = s.heap.objs.size + 1 := Heap.size_push ..
  show _ ∧ _
  rw [hz]
  have ge : IsEnum (Heap.push (s.heap.push { cls := .type "tuple_iterator", data := .fields #[.ref l, .int 0 0] }) { cls := .type "enumerate", data := .fields #[.none, .bool false, .ref s.heap.objs.size, rawInt 0, .none, .none] }) (s.heap.objs.size + 1) s.heap.objs.size 0 .none := by
    rw [← hz]
    exact Heap.get?_push_size _ rfl
  exact ⟨⟨_, ge, rfl⟩, h _ ge ⟨_, Heap.get?_push_of_some _ (Heap.get?_push_size _ rfl), rfl, rfl⟩ fun b o x => Heap.get?_push_of_some _ (Heap.get?_push_of_some _ x)⟩
def IteT (K : PySem.W.Frag) (a : Addr) : It :=
  ⟨fun i H => ∃ (xs : List V) (x : V), SqT K H a xs ∧ xs[i]? = some x,
   fun i H v H' => ∃ T x, v = .ref T ∧ H T = none ∧ H' = upd H T (.tup [.int (i : Nat), x]) ∧ ∀ xs, SqT K H a xs → xs[i]? = some x,
   fun i H => ∃ xs : List V, SqT K H a xs ∧ xs.length = i⟩
theorem tupLt {h : Heap} {a : Addr} {its : Array Value} (p : IsTup h a its) : a < h.objs.size := by obtain ⟨_, e, _⟩ := p; exact Heap.lt_size e
theorem turn_enumT {P : Program} {w : World} {K : PySem.W.Frag} {elts : List Expr} {kk : Nat} {tpos : Pos} (a e it : Addr) :
    Turn P w K (.Tuple elts kk tpos) (IteT K a) [e, it] e (fun i h => (∃ old, IsEnum h e it ((i : Nat) : Int) old) ∧ h.IsTupleIter it a i ∧ e ≠ it) where
  mem := by simp
  obj := by
    rintro i h ⟨⟨old, he⟩, ⟨o, ho, hc, hd⟩, _⟩ b hb
    simp only [List.mem_cons, List.not_mem_nil, or_false] at hb
    rcases hb with rfl | rfl
    · exact ⟨_, he, fun v q => nomatch q⟩
    · exact ⟨o, ho, fun v q => by rw [hd] at q; cases q⟩
  keep := by
    rintro i h h' ⟨⟨old, he⟩, hi, hne⟩ k
    exact ⟨⟨old, k e (by simp) _ he⟩, hi.at fun o q => k it (by simp) o q, hne⟩
  item := by
    intro X hP hw hK hc i pins s σ H E I hf st hg
    subst hP hw hK
    obtain ⟨⟨old, he⟩, hit, hne⟩ := st
    obtain ⟨xs, x, hq, hx⟩ := hg
    obtain ⟨its, rv, p, hz⟩ := I.tuple hq
    obtain ⟨u, hu, ru⟩ := rv.get hx
    have hel : e < s.heap.objs.size := Heap.lt_size he
    have hil : it < s.heap.objs.size := by obtain ⟨_, q, _⟩ := hit; exact Heap.lt_size q
    have nea : e ≠ a := by
      rintro rfl
      obtain ⟨o, ho, hcl, _⟩ := p
      rw [he] at ho
      cases ho
      injection hcl with hcl
      exact absurd hcl (by decide)
    have nia : a ≠ it := by
      rintro rfl
      obtain ⟨o, ho, hcl, _⟩ := p
      obtain ⟨o2, ho2, hcl2, _⟩ := hit
      rw [ho] at ho2
      cases ho2
      rw [hcl] at hcl2
      injection hcl2 with hcl2
      exact absurd hcl2 (by decide)
    have hlt : i < its.toArray.size := by have := (List.getElem?_eq_some_iff.mp hu).1; simpa using this
    refine wpAny_pyNext_enum_itemD (Draws.tuple (A := X.A.in1) (I.ok.hd hc) it a nia its.toArray) he ⟨hit, p⟩ hlt hne (by simp [hne, nea]) ?_
    intro u' h' tk hu' ho st' hT hsz hk
    have hu2 : its.toArray[i]? = some u' := hu'
    have : u' = u := by
      have h3 : its.toArray[i]? = some u := by simpa using hu
      rw [h3] at hu2
      exact (Option.some.inj hu2).symm
    subst this
    refine ⟨_, rfl, wpAny_letOwnedTupleGo_enum (s := { s with heap := h', toks := tk + 1 }) ho fun h'' he' sb => ?_⟩
    have hT2 : h''.get? s.heap.objs.size = some { cls := .type "tuple", data := .seq #[.int i tk, u'] } := (sb.2 _ (Nat.ne_of_gt hel)).trans hT
    have new : ObjOk X.prog X.w (upd H s.heap.objs.size (.tup [.int (i : Nat), x])) h'' s.heap.objs.size (.tup [.int (i : Nat), x]) :=
      ⟨by show 2 ≤ sizeLine; decide, [.int i tk, u'], .cons ⟨_, rfl⟩ (.cons ru .nil), ⟨_, hT2, rfl, _, rfl⟩⟩
    have kk : ∀ b ob, b ∉ [e, it] → s.heap.get? b = some ob → h''.get? b = some ob := by
      intro b ob hb q
      have h1 : b ≠ e := fun z => hb (by simp [z])
      have h2 : b ≠ it := fun z => hb (by simp [z])
      exact (sb.2 b h1).trans (hk b ob h1 h2 q)
    have I1 : Inv X pins σ (upd H s.heap.objs.size (.tup [.int (i : Nat), x])) { s with heap := h'', toks := tk + 1 } :=
      I.turnedNew (ch := [e, it]) kk hf (Nat.le_refl _) new
    refine ⟨.ref s.heap.objs.size, _, I1, rfl, ⟨_, x, rfl, I.hok.fresh (Nat.le_refl _), rfl, fun ys hy => by rw [I.tuple_inj hy hq]; exact hx⟩, ⟨⟨u', ?_⟩, st'.1.at fun o q => (sb.2 it (Ne.symm hne)).trans q, hne⟩, fun b hb => ?_⟩
    · rw [show ((i + 1 : Nat) : Int) = (i : Int) + 1 by omega]; exact he'
    · have hb' : b < s.heap.objs.size := by
        simp only [List.mem_cons, List.not_mem_nil, or_false] at hb
        rcases hb with rfl | rfl <;> assumption
      rw [upd_ne (Nat.ne_of_lt hb')]
      exact (hf b hb).1
  done := by
    intro X hP hw hK hc i pins s σ H E I hf st hg
    subst hP hw hK
    obtain ⟨⟨old, he⟩, hit, hne⟩ := st
    obtain ⟨xs, hq, hx⟩ := hg
    obtain ⟨its, rv, p, hz⟩ := I.tuple hq
    obtain ⟨f0, f1, f2, f3, f4, f5⟩ := hf it (by simp)
    have hl := rv.length
    have nia : a ≠ it := by
      rintro rfl
      obtain ⟨o, ho, hcl, _⟩ := p
      obtain ⟨o2, ho2, hcl2, _⟩ := hit
      rw [ho] at ho2
      cases ho2
      rw [hcl] at hcl2
      injection hcl2 with hcl2
      exact absurd hcl2 (by decide)
    have hi : i = its.toArray.size := by rw [List.size_toArray]; omega
    refine wpAny_pyNext_enum_endD (Draws.tuple (A := X.A.in1) (I.ok.hd hc) it a nia its.toArray) he (by rw [← hi]; exact ⟨hit, p⟩) fun h' eb => ⟨rfl, I.turned (t' := s.toks) (fun b o hb q => eb b o hb q) f0 f1 f3 f4 f5⟩
  self := by
    rintro A i s Q E ⟨⟨_, he⟩, _⟩ h
    exact wpAny_pyIter_enum he h
def iEnumT (K : PySem.W.Frag) (ta : TA) : TI := fun σ H R => ta σ H fun vs H1 => ∃ a xs, vs = [.ref a] ∧ SqT K H1 a xs ∧ R (IteT K a) H1
theorem pi_enumT {X : Cx} {e : Expr} {ta : TA} {p pos tpos : Pos} {elts : List Expr} {kk : Nat} (hg : Gl X "enumerate") (hm : X.mg "enumerate" = none) (ha : PA X [e] ta)
    (hs : starEach [e] X.env = [(false, eval e X.env)] := by rfl) : PI X (.Tuple elts kk tpos) (.Call (.Name "enumerate" p) [e] [] pos) (iEnumT X.K ta) := by
  constructor
  intro pins s σ H R I h
  refine Call_ (ld_blt I hg hm boot_enumerate (PyProof.Rows.callWith_type1 (thn (ha.run pos pins s σ H _ I h) ?_) hs rfl))
  rintro us s1 ⟨vs, H1, I1, r1, a, xs, rfl, hq, q⟩
  obtain ⟨u, rfl, rfl⟩ := vals1 r1
  obtain ⟨its, rv, p', hz⟩ := I1.tuple hq
  refine call_enumT (show s1.heap.IsTuple a its.toArray from p') fun h' he hit hk => wpAny_pyIter_enum he ?_
  have I2 : Inv X pins σ H1 { s1 with heap := h' } := I1.kept (t' := s1.toks) hk
  refine ⟨s1.heap.objs.size + 1, [s1.heap.objs.size + 1, s1.heap.objs.size], _, _, H1, rfl, I2, turn_enumT a (s1.heap.objs.size + 1) s1.heap.objs.size, ⟨⟨.none, he⟩, hit, Nat.succ_ne_self _⟩, ?_, q⟩
  intro b hb
  have hle : s1.heap.objs.size ≤ b := by
    simp only [List.mem_cons, List.not_mem_nil, or_false] at hb
    rcases hb with rfl | rfl <;> omega
  exact I1.fpOk hle (I1.hok.fresh hle)
theorem walk_enumT {K : PySem.W.Frag} {a : Addr} {xs : List V} : Walk (IteT K a) xs.length (fun H => SqT K H a xs) (YPair (fun i => some (.int (i : Nat))) (fun i => xs[i]?)) := by
  constructor
  · intro i H hi q
    exact ⟨xs, xs[i], q, by simp [hi]⟩
  · intro H q
    exact ⟨xs, q, rfl⟩
  · rintro i H v H' _ q ⟨T, x, h1, h2, h3, h4⟩
    exact ⟨T, _, x, h1, h2, h3, rfl, h4 xs q⟩
/-! zip of a list and a tuple -/
abbrev zm1 (h : Heap) (l1 : Addr) : Heap := h.push { cls := .type "list_iterator", data := .fields #[.ref l1, .int 0 0] }
abbrev zm2 (h : Heap) (l1 l2 : Addr) : Heap := (zm1 h l1).push { cls := .type "tuple_iterator", data := .fields #[.ref l2, .int 0 0] }
abbrev zm3 (h : Heap) (l1 l2 : Addr) : Heap := (zm2 h l1 l2).push { cls := .type "tuple", data := .seq #[.ref h.objs.size, .ref (zm1 h l1).objs.size] }
abbrev zm4 (h : Heap) (l1 l2 : Addr) : Heap := (zm3 h l1 l2).push { cls := .type "tuple", data := .seq #[.none, .none] }
abbrev zm5 (h : Heap) (l1 l2 : Addr) : Heap := (zm4 h l1 l2).push { cls := .type "zip", data := .fields #[.none, .bool false, .bool false, .ref (zm2 h l1 l2).objs.size, .ref (zm3 h l1 l2).objs.size] }
theorem zipM_new (l1 l2 : Addr) (xs ys : Array Value) :
    Meets (Builtin.«zip.__new__» ⟨[.type "zip", .ref l1, .ref l2], []⟩) (fun _ R s => s.heap.IsList l1 xs ∧ s.heap.IsTuple l2 ys ∧
      R (.ok (.ret (.ref (zm4 s.heap l1 l2).objs.size))) { s with heap := zm5 s.heap l1 l2 }) :=
  .of_wp fun prog w A R s h => by
    obtain ⟨hp, g, d, tk, os⟩ := s
    obtain ⟨hl1, hl2, h⟩ := h
    have hsub := sub_zip
    have hL1 : Heap.IsList (Shared.heap ⟨hp, g, d, tk, os⟩) l1 xs := hl1
    have hL2 : Heap.IsTuple (Shared.heap ⟨zm1 hp l1, g, d, tk, os⟩) l2 ys := Heap.IsTuple.push hl2 _
    wp_walk using wpAny_pyIter_list hL1, wpAny_pyIter_tuple hL2
    exact ⟨_, rfl, h⟩
theorem call_zipM {prog : Program} {w : World} {A : Around} {E : Value → Shared → Prop} {s : Shared} {l1 l2 : Addr} {xs ys : Array Value} {Q : Value → Shared → Prop} (hl1 : s.heap.IsList l1 xs) (hl2 : s.heap.IsTuple l2 ys)
    (h : ∀ h', IsZip h' (s.heap.objs.size + 4) (s.heap.objs.size + 2) (s.heap.objs.size + 3) .none → IsPair h' (s.heap.objs.size + 2) (.ref s.heap.objs.size) (.ref (s.heap.objs.size + 1)) →
      IsPair h' (s.heap.objs.size + 3) .none .none → h'.IsListIter s.heap.objs.size l1 0 → h'.IsTupleIter (s.heap.objs.size + 1) l2 0 →
      (∀ c o, s.heap.get? c = some o → h'.get? c = some o) → Q (.ref (s.heap.objs.size + 4)) { s with heap := h' }) :
    wpAny (model prog w) A (call (.type "zip") [.ref l1, .ref l2]) Q E s := by
  refine callType_new F.called_zip (by decide) (F.typeCall_zip_2 _ _) (F.newCall_zip_2 _ _) (fun obj => F.args_object_init_3 obj _ _) F.entry_zip_new (zipM_new l1 l2 xs ys) ⟨hl1, hl2, ?_⟩
  have z1 : (zm1 s.heap l1).objs.size = s.heap.objs.size + 1 := Heap.size_push ..
  have z2 : (zm2 s.heap l1 l2).objs.size = s.heap.objs.size + 2 := by rw [Heap.size_push, z1]
  have z3 : (zm3 s.heap l1 l2).objs.size = s.heap.objs.size + 3 := by rw [Heap.size_push, z2]
  have z4 : (zm4 s.heap l1 l2).objs.size = s.heap.objs.size + 4 := by rw [Heap.size_push, z3]
  have g5 : (zm5 s.heap l1 l2).get? (zm4 s.heap l1 l2).objs.size = some _ := Heap.get?_push_size _ rfl
  have g4 : (zm5 s.heap l1 l2).get? (zm3 s.heap l1 l2).objs.size = some _ := Heap.get?_push_of_some _ (Heap.get?_push_size _ rfl)
  have g3 : (zm5 s.heap l1 l2).get? (zm2 s.heap l1 l2).objs.size = some _ := Heap.get?_push_of_some _ (Heap.get?_push_of_some _ (Heap.get?_push_size _ rfl))
  have g2 : (zm5 s.heap l1 l2).get? (zm1 s.heap l1).objs.size = some _ := Heap.get?_push_of_some _ (Heap.get?_push_of_some _ (Heap.get?_push_of_some _ (Heap.get?_push_size _ rfl)))
  have g1 : (zm5 s.heap l1 l2).get? s.heap.objs.size = some _ := Heap.get?_push_of_some _ (Heap.get?_push_of_some _ (Heap.get?_push_of_some _ (Heap.get?_push_of_some _ (Heap.get?_push_size _ rfl))))
  show _ ∧ _
  rw [z2, z3, z4] at g5
  rw [z1, z2] at g3
  rw [z3] at g4
  rw [z1] at g2
  rw [z4]
  refine ⟨⟨_, g5, rfl⟩, h _ g5 g3 g4 ⟨_, g1, rfl, rfl⟩ ⟨_, g2, rfl, rfl⟩ ?_⟩
  intro c o x
  exact Heap.get?_push_of_some _ (Heap.get?_push_of_some _ (Heap.get?_push_of_some _ (Heap.get?_push_of_some _ (Heap.get?_push_of_some _ x))))
def ItzM (K : PySem.W.Frag) (a b : Addr) : It :=
  ⟨fun i H => ∃ (xs ys : List V) (x y : V), SqL K H a xs ∧ SqT K H b ys ∧ xs[i]? = some x ∧ ys[i]? = some y,
   fun i H v H' => ∃ T x y, v = .ref T ∧ H T = none ∧ H' = upd H T (.tup [x, y]) ∧ (∀ xs, SqL K H a xs → xs[i]? = some x) ∧ ∀ ys, SqT K H b ys → ys[i]? = some y,
   fun i H => ∃ xs ys : List V, SqL K H a xs ∧ SqT K H b ys ∧ min xs.length ys.length = i⟩
theorem sepM {z TI TO i1 i2 a b : Addr} (D : ZipApart z TI TO i1 i2 a b) : ZipSep2 z TI TO i1 i2 [i1, a] [i2, b] := by
  refine ⟨D.TIz, D.TOz, D.TITO, D.TIi1, by simp, ?_, ?_, D.TIi2, by simp, ?_, ?_, ?_, ?_⟩ <;>
    simp only [List.mem_cons, List.not_mem_nil, or_false, not_or]
  · exact ⟨D.i1z.symm, D.l1z.symm⟩
  · exact ⟨D.TOi1, D.l1TO.symm⟩
  · exact ⟨D.i2z.symm, D.l2z.symm⟩
  · exact ⟨D.TOi2, D.l2TO.symm⟩
  · exact ⟨D.i12, D.l2i1.symm⟩
  · exact ⟨D.i12.symm, D.l1i2.symm⟩
theorem turn_zipM {P : Program} {w : World} {K : PySem.W.Frag} {elts : List Expr} {kk : Nat} {tpos : Pos} {a b z TI TO i1 i2 : Addr} (D : ZipApart z TI TO i1 i2 a b) :
    Turn P w K (.Tuple elts kk tpos) (ItzM K a b) [z, TI, TO, i1, i2] z
      (fun i h => IsZip h z TI TO .none ∧ IsPair h TI (.ref i1) (.ref i2) ∧ (∃ x y, IsPair h TO x y) ∧ h.IsListIter i1 a i ∧ h.IsTupleIter i2 b i) where
  mem := by simp
  obj := by
    rintro i h ⟨hz, hTI, ⟨x, y, hTO⟩, ⟨o1, e1, _, d1⟩, ⟨o2, e2, _, d2⟩⟩ c hc
    simp only [List.mem_cons, List.not_mem_nil, or_false] at hc
    rcases hc with rfl | rfl | rfl | rfl | rfl
    · exact ⟨_, hz, fun v q => nomatch q⟩
    · exact ⟨_, hTI, fun v q => nomatch q⟩
    · exact ⟨_, hTO, fun v q => nomatch q⟩
    · exact ⟨o1, e1, fun v q => by rw [d1] at q; cases q⟩
    · exact ⟨o2, e2, fun v q => by rw [d2] at q; cases q⟩
  keep := by
    rintro i h h' ⟨hz, hTI, ⟨x, y, hTO⟩, h1, h2⟩ k
    exact ⟨k z (by simp) _ hz, k TI (by simp) _ hTI, ⟨x, y, k TO (by simp) _ hTO⟩, h1.at fun o q => k i1 (by simp) o q, h2.at fun o q => k i2 (by simp) o q⟩
  item := by
    intro X hP hw hK hc i pins s σ H E I hf st hg
    subst hP hw hK
    obtain ⟨hz, hTI, ⟨x0, y0, hTO⟩, h1, h2⟩ := st
    obtain ⟨xs, ys, x, y, hqx, hqy, hx, hy⟩ := hg
    obtain ⟨its, rv, p, _⟩ := I.list hqx
    obtain ⟨its2, rv2, p2, _⟩ := I.tuple hqy
    obtain ⟨u, hu, ru⟩ := rv.get hx
    obtain ⟨u2, hu2, ru2⟩ := rv2.get hy
    have hzl : z < s.heap.objs.size := Heap.lt_size hz
    have hl1 : i < its.toArray.size := by have := (List.getElem?_eq_some_iff.mp hu).1; simpa using this
    have hl2 : i < its2.toArray.size := by have := (List.getElem?_eq_some_iff.mp hu2).1; simpa using this
    refine wpAny_pyNext_zipD2_item (sepM D) (Draws.list (A := X.A.in1) (I.ok.hd hc) i1 a D.l1i1 its.toArray) (Draws.tuple (A := X.A.in1) (I.ok.hd hc) i2 b D.l2i2 its2.toArray) hz hTI hTO ⟨h1, p.isList⟩ ⟨h2, p2⟩ hl1 hl2 ?_
    intro v1 v2 h' tk hv1 hv2 z' TO' st1 st2 hT hsz hk
    have e1 : v1 = u := by
      have h3 : its.toArray[i]? = some u := by simpa using hu
      rw [show its.toArray[i]? = some v1 from hv1] at h3
      exact Option.some.inj h3
    have e2 : v2 = u2 := by
      have h3 : its2.toArray[i]? = some u2 := by simpa using hu2
      rw [show its2.toArray[i]? = some v2 from hv2] at h3
      exact Option.some.inj h3
    subst e1 e2
    refine ⟨_, rfl, wpAny_letOwnedTupleGo_zip (s := { s with heap := h', toks := tk }) z' fun h'' z'' sb => ?_⟩
    have hT2 : h''.get? s.heap.objs.size = some { cls := .type "tuple", data := .seq #[v1, v2] } := (sb.2 _ (Nat.ne_of_gt hzl)).trans hT
    have new : ObjOk X.prog X.w (upd H s.heap.objs.size (.tup [x, y])) h'' s.heap.objs.size (.tup [x, y]) :=
      ⟨by show 2 ≤ sizeLine; decide, [v1, v2], .cons ru (.cons ru2 .nil), ⟨_, hT2, rfl, _, rfl⟩⟩
    have kk : ∀ c o, c ∉ [z, TI, TO, i1, i2] → s.heap.get? c = some o → h''.get? c = some o := by
      intro c o hb q
      simp only [List.mem_cons, List.not_mem_nil, or_false, not_or] at hb
      exact (sb.2 c hb.1).trans (hk c o hb.1 hb.2.2.1 hb.2.2.2.1 hb.2.2.2.2 q)
    have I1 : Inv X pins σ (upd H s.heap.objs.size (.tup [x, y])) { s with heap := h'', toks := tk } :=
      I.turnedNew (t' := tk) (ch := [z, TI, TO, i1, i2]) kk hf (Nat.le_refl _) new
    refine ⟨.ref s.heap.objs.size, _, I1, rfl, ⟨_, x, y, rfl, I.hok.fresh (Nat.le_refl _), rfl, fun l hl => by rw [I.list_inj hl hqx]; exact hx, fun l hl => by rw [I.tuple_inj hl hqy]; exact hy⟩, ⟨z'', ?_, ⟨v1, v2, ?_⟩, ?_, ?_⟩, ?_⟩
    · exact (sb.2 _ D.TIz).trans (hk _ _ D.TIz D.TITO D.TIi1 D.TIi2 hTI)
    · exact (sb.2 _ D.TOz).trans TO'
    · exact st1.1.at fun o q => (sb.2 _ D.i1z).trans q
    · exact st2.1.at fun o q => (sb.2 _ D.i2z).trans q
    · intro c hcm
      have hlt : c < s.heap.objs.size := by
        simp only [List.mem_cons, List.not_mem_nil, or_false] at hcm
        rcases hcm with rfl | rfl | rfl | rfl | rfl
        · exact hzl
        · exact Heap.lt_size hTI
        · exact Heap.lt_size hTO
        · obtain ⟨_, e1, _⟩ := h1; exact Heap.lt_size e1
        · obtain ⟨_, e2, _⟩ := h2; exact Heap.lt_size e2
      rw [upd_ne (Nat.ne_of_lt hlt)]
      exact (hf c hcm).1
  done := by
    intro X hP hw hK hc i pins s σ H E I hf st hg
    subst hP hw hK
    obtain ⟨hz, hTI, ⟨x0, y0, hTO⟩, h1, h2⟩ := st
    obtain ⟨xs, ys, hqx, hqy, hend⟩ := hg
    obtain ⟨its, rv, p, _⟩ := I.list hqx
    obtain ⟨its2, rv2, p2, _⟩ := I.tuple hqy
    have l1 := rv.length
    have l2 := rv2.length
    refine wpAny_pyNext_zipD2_end (i := i) (sepM D) (Draws.list (A := X.A.in1) (I.ok.hd hc) i1 a D.l1i1 its.toArray) (Draws.tuple (A := X.A.in1) (I.ok.hd hc) i2 b D.l2i2 its2.toArray) hz hTI hTO ⟨h1, p.isList⟩ ⟨h2, p2⟩ (by simp; omega) (by simp; omega) (by simp; omega) ?_
    intro h' tk hk
    refine ⟨rfl, I.turnedL (t' := tk) (ch := [z, TI, TO, i1, i2]) ?_ hf⟩
    intro c o hb q
    simp only [List.mem_cons, List.not_mem_nil, or_false, not_or] at hb
    exact hk c o hb.1 hb.2.2.1 hb.2.2.2.1 hb.2.2.2.2 q
  self := fun A i s Q E st h => wpAny_pyIter_zip st.1 h
def iZipM (K : PySem.W.Frag) (ta : TA) : TI := fun σ H R => ta σ H fun vs H1 => ∃ a b xs ys, vs = [.ref a, .ref b] ∧ SqL K H1 a xs ∧ SqT K H1 b ys ∧ R (ItzM K a b) H1
theorem pi_zipM {X : Cx} {e e2 : Expr} {ta : TA} {p pos tpos : Pos} {elts : List Expr} {kk : Nat} (hg : Gl X "zip") (hm : X.mg "zip" = none) (ha : PA X [e, e2] ta)
    (hs : starEach [e, e2] X.env = (false, eval e X.env) :: starEach [e2] X.env := by rfl) (hpl : (backTo pos (starEach [e2] X.env)).any (·.1) = false := by rfl) :
    PI X (.Tuple elts kk tpos) (.Call (.Name "zip" p) [e, e2] [] pos) (iZipM X.K ta) := by
  constructor
  intro pins s σ H R I h
  refine Call_ (ld_blt I hg hm PyProof.Rows.boot_zip (PyProof.Rows.callWith_type1 (thn (ha.run pos pins s σ H _ I h) ?_) hs hpl))
  rintro us s1 ⟨vs, H1, I1, r1, a, b, xs, ys, rfl, hqx, hqy, q⟩
  obtain ⟨u, v, rfl, rfl, rfl⟩ := vals2 r1
  obtain ⟨its, rv, p1, _⟩ := I1.list hqx
  obtain ⟨its2, rv2, p2, _⟩ := I1.tuple hqy
  refine call_zipM p1.isList (show s1.heap.IsTuple b its2.toArray from p2) fun h' hz hTI hTO h1 h2 hk => wpAny_pyIter_zip hz ?_
  have I2 : Inv X pins σ H1 { s1 with heap := h' } := I1.kept (t' := s1.toks) hk
  refine ⟨s1.heap.objs.size + 4, [s1.heap.objs.size + 4, s1.heap.objs.size + 2, s1.heap.objs.size + 3, s1.heap.objs.size, s1.heap.objs.size + 1], _, _, H1, rfl, I2,
    turn_zipM (PySem.W.ktu_apart s1.heap.objs.size a b p1.lt (tupLt p2)), ⟨hz, hTI, ⟨_, _, hTO⟩, h1, h2⟩, ?_, q⟩
  intro c hcm
  have hle : s1.heap.objs.size ≤ c := by
    simp only [List.mem_cons, List.not_mem_nil, or_false] at hcm
    rcases hcm with rfl | rfl | rfl | rfl | rfl <;> omega
  exact I1.fpOk hle (I1.hok.fresh hle)
theorem walk_zipM {K : PySem.W.Frag} {a b : Addr} {xs ys : List V} {n : Nat} (hn : n = min xs.length ys.length) :
    Walk (ItzM K a b) n (fun H => SqL K H a xs ∧ SqT K H b ys) (YPair (fun i => xs[i]?) (fun i => ys[i]?)) := by
  subst hn
  constructor
  · rintro i H hi ⟨q1, q2⟩
    have h1 : i < xs.length := by omega
    have h2 : i < ys.length := by omega
    exact ⟨xs, ys, xs[i], ys[i], q1, q2, by simp [h1], by simp [h2]⟩
  · rintro H ⟨q1, q2⟩
    exact ⟨xs, ys, q1, q2, rfl⟩
  · rintro i H v H' _ ⟨q1, q2⟩ ⟨T, x, z, h1, h2, h3, h4, h5⟩
    exact ⟨T, x, z, h1, h2, h3, h4 xs q1, h5 ys q2⟩
end Pv

/-! t[::-1] of a tuple -/
namespace HT
open PySem PyProof.Rows
section
variable {prog : Program} {w : World} {A : Around} {E : Value → Shared → Prop} {s : Shared}
theorem pv_pickBack (xs : Array Value) : ((List.range xs.size).filterMap fun (k : Nat) => xs[(((xs.size : Int) - 1) + (k : Int) * (-1)).toNat]?) = xs.toList.reverse := by
  apply List.ext_getElem?
  intro i
  have e : ∀ n, n ≤ xs.size → ((List.range n).filterMap fun (k : Nat) => xs[(((xs.size : Int) - 1) + (k : Int) * (-1)).toNat]?) = xs.toList.reverse.take n := by
    intro n
    induction n with
    | zero => intro _; rfl
    | succ n ih =>
      intro hn
      rw [List.range_succ, List.filterMap_append, ih (by omega), List.take_add_one]
      congr 1
      have h1 : (((xs.size : Int) - 1) + (n : Int) * (-1)).toNat = xs.size - 1 - n := by omega
      rw [List.filterMap_cons, List.filterMap_nil, h1, List.getElem?_reverse (by rw [Array.length_toList]; omega), Array.length_toList, Array.getElem?_toList]
      cases xs[xs.size - 1 - n]? <;> rfl
  rw [e xs.size (Nat.le_refl _), List.take_of_length_le (by simp)]
theorem pv_appliedBack {sl : Addr} {n : Nat} {t : Tok} {Q : Int × Int × Nat → Shared → Prop} (hs : s.heap.IsSliceOf sl .none .none (.int (-1) t)) (h : Q ((n : Int) - 1, -1, n) s) :
    wpAny (model prog w) A (Builtin.Slice.sliceApplied (.ref sl) (pure (n : Int))) Q E s := by
  obtain ⟨os, hos, hcs, hds⟩ := id hs
  unfold Builtin.Slice.sliceApplied Builtin.Slice.sliceFields
  refine wpAny_bind (wpAny_bind (wpAny_field hos hds (x := .none) rfl (wpAny_bind (wpAny_field hos hds (x := .none) rfl (wpAny_bind (wpAny_field hos hds (x := .int (-1) t) rfl (wpAny_pure ?_)))))))
  refine wpAny_bind (slicePart_ (IsPart.int (-1) t) ?_)
  show wpAny _ _ (if ((-1 : Int) == 0) = true then _ else _) _ _ s
  rw [if_neg (by decide)]
  refine wpAny_bind (slicePart_ IsPart.none (wpAny_bind (slicePart_ IsPart.none (wpAny_bind (wpAny_pure ?_)))))
  show wpAny _ _ (match Builtin.Slice.sliceAdjust none none (-1) (n : Int) with | (a, b) => pure (a, (-1 : Int), Builtin.Slice.slicePlaces a b (-1))) _ _ s
  have e1 : Builtin.Slice.sliceAdjust none none (-1) (n : Int) = ((n : Int) - 1, -1) := rfl
  rw [e1]
  show wpAny _ _ (pure ((n : Int) - 1, (-1 : Int), Builtin.Slice.slicePlaces ((n : Int) - 1) (-1) (-1))) _ _ s
  have e2 : Builtin.Slice.slicePlaces ((n : Int) - 1) (-1) (-1) = n := by
    unfold Builtin.Slice.slicePlaces
    have h1 : ¬ ((-1 : Int) > 0) := by omega
    simp only [h1, if_false]
    by_cases h2 : (n : Int) - 1 > -1
    · rw [if_pos h2]
      have h3 : -(-1 : Int) = 1 := rfl
      rw [h3, Int.ediv_one]
      omega
    · rw [if_neg h2]; omega
  rw [e2]
  exact wpAny_pure h
theorem pv_getItemBack {p sl : Addr} {items : Array Value} {t : Tok} {Q : Value → Shared → Prop} (ht : IsTup s.heap p items) (hs : s.heap.IsSliceOf sl .none .none (.int (-1) t))
    (h : Q (.ref s.heap.objs.size) { s with heap := s.heap.push { cls := .type "tuple", data := .seq items.toList.reverse.toArray } }) (hsz : items.size ≤ sizeLine) : wpAny (model prog w) A (getItem (.ref p) (.ref sl)) Q E s := by
  have hfit : sizeOk (.seq items.toList.reverse.toArray) := by
    show items.toList.reverse.toArray.size ≤ sizeLine
    rw [List.size_toArray, List.length_reverse]; simpa using hsz
  obtain ⟨os, hos, hcs, hds⟩ := id hs
  have hT : s.TypeIs (.ref sl) "slice" := ⟨os, hos, hcs⟩
  unfold getItem; try with_reducible refine wpAny_holding ?_
  first | refine wpAny_bind (wpAny_pure ?_) | skip
  refine wpAny_bind (wpAny_sequenceKey ht.typeIs (by decide) (wpAny_bind (wpAny_callSpecial?_slot (name := Str.ofString "__getitem__") ht.typeIs PyProof.Rows.slot_tuple_getitem
    (wpAny_call_entry PyProof.Rows.slot_tuple_getitem ht.typeIs entry_tuple_getitem ?_ (args_tuple_getitem _ _)))))
  show wpAny _ _ (Builtin.Tuple.tupleItemsOf (.ref p) >>= _) _ _ s
  refine wpAny_bind (tupleItemsOf_ ht (wpAny_bind (wpAny_typeOf hT ?_)))
  rw [if_pos (by decide)]
  refine wpAny_bind (pv_appliedBack hs ?_)
  show wpAny _ _ (if (((items.size : Int) - 1) == 0 && (-1 : Int) == 1 && items.size == items.size) = true then _ else _) _ _ s
  rw [if_neg (by simp)]
  show wpAny _ _ (Builtin.Tuple.tupleExact ((List.range items.size).filterMap fun (k : Nat) => items[(((items.size : Int) - 1) + (k : Int) * (-1)).toNat]?).toArray >>= _) _ _ s
  rw [pv_pickBack]
  first
    | exact wpAny_bind (m := Builtin.Tuple.tupleExact _) (wpAny_newObj_type (wpAny_pure ⟨_, rfl, wpAny_pure h⟩) hfit)
    | exact wpAny_bind (m := Builtin.Tuple.tupleExact _) (wpAny_newObj_type (wpAny_bind (wpAny_pure (wpAny_pure ⟨_, rfl, wpAny_pure h⟩))) hfit)
    | exact wpAny_bind (wpAny_bind (m := Builtin.Tuple.tupleExact _) (wpAny_newObj_type (wpAny_pure (wpAny_pure ⟨_, rfl, wpAny_pure h⟩)) hfit))
    | exact wpAny_bind (wpAny_bind (m := Builtin.Tuple.tupleExact _) (wpAny_newObj_type (wpAny_pure ⟨_, rfl, wpAny_pure h⟩) hfit))
end
end HT
namespace Pv
open PySem PySem.Spec PyProof.Rows L2
def tRevT (K : PySem.W.Frag) (te : TE) : TE := fun σ H Q => te σ H fun x H1 => ∃ (a : Addr) (xs : List V), x = .ref a ∧ SqT K H1 a xs ∧ ∀ p, H1 p = none → Q (.ref p) (upd H1 p (.tup xs.reverse))
section
variable {X : Cx}
theorem pe_revT {e : Expr} {te : TE} {k : Nat} {p1 p2 p3 pos : Pos} (he : PE X e te) : PE X (.Subscript e (.Slice none none (some (.UnaryOp .USub (.Constant (.int 1) k p1) p2)) p3) pos) (tRevT X.K te) := by
  constructor
  intro pins s σ H Q I h
  refine Subscript_ (thn (he.run pins s σ H _ I h) ?_)
  rintro v s1 ⟨x, H1, I1, r1, a, xs, rfl, hx, q⟩
  cases r1
  have hst : PO X (some (.UnaryOp .USub (.Constant (.int 1) k p1) p2)) (tPart (tUn (rU fun i => .int (-i)) (tC (.int 1)))) := po_some (pe_un un_neg pe_int)
  refine wpAny_Slice (thn (po_none.run pins s1 σ H1 (fun o H2 => o = none ∧ H2 = H1) I1 ⟨rfl, rfl⟩) ?_)
  rintro vl s2 ⟨l, H2, I2, pl, rfl, rfl⟩
  refine thn (po_none.run pins s2 σ H2 (fun o H3 => o = none ∧ H3 = H2) I2 ⟨rfl, rfl⟩) ?_
  rintro vu s3 ⟨u, H3, I3, pu, rfl, rfl⟩
  refine thn (hst.run pins s3 σ H3 (fun o H4 => o = some (-1) ∧ H4 = H3) I3 ⟨1, rfl, -1, rfl, rfl, rfl⟩) ?_
  rintro vs s4 ⟨o, H4, I4, ps, rfl, rfl⟩
  have I5 : Inv X pins σ H4 { s4 with heap := s4.heap.push { cls := .type "slice", data := .fields #[vl, vu, vs] } } := I4.kept (t' := s4.toks) fun b ob q => Heap.get?_push_of_some _ q
  obtain ⟨its, r, ht, hz⟩ := I5.tuple hx
  have hlen := r.length
  cases pl
  cases pu
  cases ps
  show wpAny (model X.prog X.w) X.A (subscriptTail e (.Slice none none (some (.UnaryOp .USub (.Constant (.int 1) k p1) p2)) p3) (.ref a) (.ref s4.heap.objs.size)) (EP X pins σ Q) X.xe _
  refine tail_any (ops := [.ref a, .ref s4.heap.objs.size]) ht.typeIs (PyProof.Rows.slot_tuple_getitem.lookup) ?_ (by with_unfolding_all rfl)
  refine HT.pv_getItemBack ht (Heap.IsSliceOf.new _ _ _ _) ?_ (by rw [List.size_toArray]; omega)
  refine ⟨.ref _, _, I5.laid (t' := s4.toks) (o := .tup xs.reverse) (fun b ob q => Heap.get?_push_of_some _ q) (Nat.le_refl _) ?_, rfl, q _ (I5.hok.fresh (Nat.le_refl _))⟩
  exact ⟨by rw [List.length_reverse]; exact hz, _, r.reverse, IsTup.new _ _⟩
/-! list == [], tuple != () whatever the items are -/
def rEqNil (K : PySem.W.Frag) : R2 := fun x y H Q => ∃ (a b : Addr) (xs : List V), x = .ref a ∧ y = .ref b ∧ SqL K H a xs ∧ SqL K H b [] ∧ Q (.bl xs.isEmpty) H
theorem op_eqNil (hu : X.A.units < cLine) : OpR X (compareOp .Eq) (rEqNil X.K) := by
  intro pins s σ H x y v u Q I rx ry h
  obtain ⟨a, b, xs, rfl, rfl, ha, hb, q⟩ := h
  cases rx
  cases ry
  obtain ⟨its, r1, p1, z1⟩ := I.list ha
  obtain ⟨its2, r2, p2, z2⟩ := I.list hb
  cases r2
  cases xs with
  | nil =>
    cases r1
    exact SeqAt.RcAt.lists (e := fun _ => true) p1.isList p2.isList rfl hu (fun j h1 _ => absurd h1 (Nat.not_lt_zero _)) X.prog X.w _ _ ⟨.bl true, H, I, rfl, q⟩
  | cons x xs =>
    have hl := r1.length
    exact SeqAt.RcAt.lists_lengths p1.isList p2.isList (by rw [List.size_toArray, ← hl]; rfl) hu X.prog X.w _ _ ⟨.bl false, H, I, rfl, q⟩
def rNeNilT (K : PySem.W.Frag) : R2 := fun x y H Q => ∃ (a b : Addr) (xs : List V), x = .ref a ∧ y = .ref b ∧ SqT K H a xs ∧ SqT K H b [] ∧ Q (.bl (!xs.isEmpty)) H
theorem op_neNilT (hu : X.A.units < cLine) : OpR X (compareOp .NotEq) (rNeNilT X.K) := by
  intro pins s σ H x y v u Q I rx ry h
  obtain ⟨a, b, xs, rfl, rfl, ha, hb, q⟩ := h
  cases rx
  cases ry
  obtain ⟨its, r1, p1, z1⟩ := I.tuple ha
  obtain ⟨its2, r2, p2, z2⟩ := I.tuple hb
  cases r2
  have hl := r1.length
  have key := SeqAt.RcNeAt.tuples (A := X.A) (e := fun _ => true) (show s.heap.IsTuple a its.toArray from p1) (show s.heap.IsTuple b ([] : List Value).toArray from p2) hu (fun j _ h2 => absurd h2 (Nat.not_lt_zero _)) X.prog X.w
  have e : (!((List.range (min its.toArray.size ([] : List Value).toArray.size)).all (fun _ => true) && its.toArray.size == ([] : List Value).toArray.size)) = !xs.isEmpty := by
    rw [List.size_toArray, ← hl]
    cases xs <;> simp
  rw [e] at key
  exact key _ _ ⟨.bl _, H, I, rfl, q⟩
end
end Pv

namespace Pv
open PySem PySem.Spec PyProof.Rows L2
theorem samePut {H H1 : Hp} {D : Addr} {o : HO} (s : Same H H1) (nD : H D = none) : Same H (upd H1 D o) := fun b z e => by rw [upd_ne (ne_of_none e nD)]; exact s b z e
theorem ty_sq {K : PySem.W.Frag} {H : Hp} {a : Addr} {xs : List V} (h : SqT K H a xs) : TyX K H (.ref a) (.type "tuple") := by
  rcases h with (h | ⟨o, h⟩) | ⟨o, its, n, h, hc, _⟩
  · exact .base (.tup h)
  · exact .fTuple h
  · exact .kTuple h hc
theorem small {n : Nat} (h : n ≤ 1000000) : n < sizeLine := Nat.lt_of_le_of_lt h (by decide)
def addAt (ls : List Int) (p x : Int) : List Int := ls.set p.toNat (ls.getD p.toNat 0 + x)
theorem addAt_len (ls : List Int) (p x : Int) : (addAt ls p x).length = ls.length := by simp [addAt]
theorem freeOf {H : Hp} {p b : Addr} {o : HO} (h : upd H p o b = none) : H b = none := by
  by_cases e : b = p
  · subst e; rw [upd_same] at h; cases h
  · rw [upd_ne e] at h; exact h
theorem ixN_nat {n j : Nat} (h : j < n) : ixN n (j : Int) = some j := by
  unfold ixN
  rw [if_pos (by omega), if_pos (by omega)]
  simp
theorem zip_take {α β : Type} : ∀ (n : Nat) (a : List α) (b : List β), (a.take n).zip (b.take n) = (a.zip b).take n
  | 0, _, _ => by simp
  | _ + 1, [], _ => by simp
  | _ + 1, _ :: _, [] => by simp
  | n + 1, x :: a, y :: b => by simp [zip_take n a b]
def zeros (n : Nat) : List Int := List.replicate n 0
theorem zeros_V (n : Nat) : (List.replicate n [V.int 0]).flatten = (zeros n).map V.int := by
  unfold zeros
  induction n with
  | zero => rfl
  | succ n ih => rw [List.replicate_succ, List.flatten_cons, ih]; rfl
theorem zip_snoc {α β : Type} {a : List α} {b : List β} {i : Nat} {x : α} {y : β} (hx : a[i]? = some x) (hy : b[i]? = some y) : (a.take (i + 1)).zip (b.take (i + 1)) = (a.take i).zip (b.take i) ++ [(x, y)] := by
  rw [zip_take, zip_take, List.take_add_one]
  have : (a.zip b)[i]? = some (x, y) := by
    rw [List.getElem?_zip_eq_some]; exact ⟨hx, hy⟩
  rw [this]; rfl
theorem take_snoc {α : Type} {l : List α} {i : Nat} {x : α} (h : l[i]? = some x) : l.take (i + 1) = l.take i ++ [x] := by rw [List.take_add_one, h]; rfl
theorem cut_to (xs : List V) (n : Nat) : cutV xs none (some (n : Int)) = xs.take n := by
  unfold cutV
  rw [HT.sIx_none, HT.sIx_nat, List.drop_zero, Nat.sub_zero]
  by_cases h : n ≤ xs.length
  · rw [Nat.min_eq_left h]
  · rw [Nat.min_eq_right (by omega), List.take_length, List.take_of_length_le (by omega)]
def absI (i : Int) : Int := if i < 0 then -i else i
theorem absI_nn (i : Int) : 0 ≤ absI i := by unfold absI; split <;> omega
def restI (c : Int) : Int := c * (if decide ((10 : Int) ^ (18 : Int).toNat ≤ c) = true then 1 else 0)
theorem restI_nn {c : Int} (h : 0 ≤ c) : 0 ≤ restI c := by unfold restI; split <;> omega
structure InsOk (cs : List Int) (gs : List Gp) : Prop where
  c1 : 1 ≤ cs.length
  c6 : cs.length ≤ 6
  cb : ∀ c ∈ cs, 1 ≤ c ∧ c ≤ 10 ^ 12
  g1 : 1 ≤ gs.length
  g10 : gs.length ≤ 10
  gp : ∀ g ∈ gs, g.1.length ≤ 6 ∧ (∀ p ∈ g.1, 0 ≤ p ∧ p < (cs.length : Int)) ∧ 1 ≤ g.2 ∧ g.2 ≤ 10 ^ 12
theorem ExtPut {st r p : Addr} {H H1 : Hp} {o : HO} (x : Ext st r H H1) (np : H p = none) : Ext st r H (upd H1 p o) := fun b z e n1 n2 => by rw [upd_ne (ne_of_none e np)]; exact x b z e n1 n2
theorem Ext.nil {st c r p : Addr} {t : Nat} {H H1 : Hp} (x : Ext st r H H1) (d : DS H1 st c r t) (np : H1 p = none) : H p = none := by
  have o := d.off np
  cases e : H p with
  | none => rfl
  | some z => rw [x _ _ e o.1 o.2.2] at np; cases np
def upTo (n : Nat) : List Int := (List.range n).map fun (i : Nat) => (i : Int)
theorem rgV_upTo (n : Nat) : rgV 0 (n : Int) = (upTo n).map V.int := by
  unfold rgV upTo
  rw [List.map_map]
  simp
theorem upTo_len (n : Nat) : (upTo n).length = n := by simp [upTo]
theorem upTo_mem {n : Nat} {x : Int} (h : x ∈ upTo n) : 0 ≤ x ∧ x < n := by
  unfold upTo at h
  obtain ⟨i, hi, rfl⟩ := List.mem_map.mp h
  have := List.mem_range.mp hi
  omega
theorem erase_map {α β : Type} (f : α → β) : ∀ (l : List α) (k : Nat), (l.map f).eraseIdx k = (l.eraseIdx k).map f
  | [], _ => rfl
  | _ :: _, 0 => rfl
  | x :: l, k + 1 => by simp [erase_map f l k]
theorem fine_grp {cs : List Int} {gs : List Gp} (ok : InsOk cs gs) {g : Gp} (hg : g ∈ gs) : Fine 2 500 (dGrp g) := by
  obtain ⟨h1, h2, h3, h4⟩ := ok.gp g hg
  refine (fine_tup (k := 1) (B := 200) (n := 2) (xs := [dI g.1, .int g.2]) ?_ (by simp)).mono (by omega) (by omega)
  intro x hx
  simp at hx
  rcases hx with rfl | rfl
  · exact (fine_dI (n := 6) (fun p hp => by have := h2 p hp; have := ok.c6; omega) h1).mono (by omega) (by omega)
  · exact (fine_int (by omega)).mono (by omega) (by omega)
theorem fine_inst {cs : List Int} {gs : List Gp} (ok : InsOk cs gs) : Fine 4 20000 (dInst cs gs) := by
  refine (fine_tup (k := 3) (B := 8000) (n := 2) (xs := [dI cs, .tuple (gs.map dGrp)]) ?_ (by simp)).mono (by omega) (by omega)
  intro x hx
  simp at hx
  rcases hx with rfl | rfl
  · exact (fine_dI (n := 6) (fun p hp => by have := ok.cb p hp; omega) ok.c6).mono (by omega) (by omega)
  · refine (fine_tup (k := 2) (B := 500) (n := 10) ?_ (by rw [List.length_map]; exact ok.g10)).mono (by omega) (by omega)
    intro d hd
    obtain ⟨g, hg, rfl⟩ := List.mem_map.mp hd
    exact fine_grp ok hg
theorem hu70 {k : Nat} {A : Around} (hr : Room k A) : A.units + 70 < cLine := by have := hr.un; omega
theorem ty_sqL {K : PySem.W.Frag} {H : Hp} {a : Addr} {xs : List V} (h : SqL K H a xs) : TyX K H (.ref a) (.type "list") := by
  rcases h with (h | ⟨o, h⟩) | ⟨o, its, n, h, hc, _⟩
  · exact .base (.lst h)
  · exact .base (.frz h)
  · exact .kList h hc
theorem FnOk.none {P : Program} {w : World} {K : PySem.W.Frag} {mg : Str → Option Value} {base : Heap} {k : Nat} {f : Addr} {fd : FuncData} {ps : List Str} : FnOk P w K mg base CX0 k f fd ps (fun _ _ _ _ => False) :=
  ⟨fun _ _ _ _ h => h.elim, fun _ _ _ _ _ _ _ _ _ _ _ _ _ h => h.elim⟩
end Pv

namespace Pv
open PySem PySem.Spec PyProof.Rows L2
/-! a comprehension whose elements only make new objects -/
def LcP {α : Type} (H1 : Hp) (D : Addr) (zs : List α) (F : α → Option V) (i : Nat) (H : Hp) : Prop := Same H1 H ∧ H D = some (.lst ((zs.take i).filterMap F))
section
variable {α : Type} {H1 H H' : Hp} {D : Addr} {zs : List α} {F : α → Option V} {i : Nat} {x : α} {y : V}
theorem LcP.start (nD : H1 D = none) : LcP H1 D zs F 0 (upd H1 D (.lst [])) := ⟨sameNew nD, by rw [upd_same]; rfl⟩
theorem LcP.yes (h : LcP H1 D zs F i H) (nD : H1 D = none) (s : Same H H') (hx : zs[i]? = some x) (hF : F x = some y) (hi : i ≤ 1000000) : ∃ acc, H' D = some (.lst acc) ∧ acc.length < sizeLine ∧ LcP H1 D zs F (i + 1) (upd H' D (.lst (acc ++ [y]))) := by
  refine ⟨_, s _ _ h.2, ?_, samePut (h.1.trans s) nD, ?_⟩
  · have h1 := List.length_filterMap_le F (zs.take i)
    have h2 := List.length_take_le i zs
    exact small (by omega)
  · rw [upd_same, take_snoc hx, List.filterMap_append]
    simp [hF]
theorem LcP.no (h : LcP H1 D zs F i H) (s : Same H H') (hx : zs[i]? = some x) (hF : F x = none) : LcP H1 D zs F (i + 1) H' := by
  refine ⟨h.1.trans s, ?_⟩
  rw [s _ _ h.2, take_snoc hx, List.filterMap_append]
  simp [hF]
theorem LcP.done (h : LcP H1 D zs F i H) (hi : zs.length ≤ i) : H D = some (.lst (zs.filterMap F)) := by have := h.2; rwa [List.take_of_length_le hi] at this
end
theorem fm_map {α : Type} (f : α → V) (zs : List α) : zs.filterMap (fun x => some (f x)) = zs.map f := by
  induction zs with
  | nil => rfl
  | cons z zs ih => simp
theorem fm_filter {α : Type} (p : α → Bool) (f : α → V) (zs : List α) : zs.filterMap (fun x => if p x = true then some (f x) else none) = (zs.filter p).map f := by
  induction zs with
  | nil => rfl
  | cons z zs ih => by_cases h : p z = true <;> simp [h, ih]
def Rl {β : Type} (R : V → β → Prop) (vs : List V) (rs : List β) : Prop := vs.length = rs.length ∧ ∀ (j : Nat) (v : V) (r : β), vs[j]? = some v → rs[j]? = some r → R v r
section
variable {β : Type} {R R' : V → β → Prop} {vs : List V} {rs : List β}
theorem Rl.nil : Rl R [] [] := ⟨rfl, fun j v r h => by simp at h⟩
theorem Rl.mono (h : Rl R vs rs) (f : ∀ v r, R v r → R' v r) : Rl R' vs rs := ⟨h.1, fun j v r h1 h2 => f _ _ (h.2 j v r h1 h2)⟩
theorem Rl.snoc {v : V} {r : β} (h : Rl R vs rs) (hv : R v r) : Rl R (vs ++ [v]) (rs ++ [r]) := by
  refine ⟨by simp [h.1], fun j v' r' h1 h2 => ?_⟩
  by_cases hj : j < vs.length
  · rw [List.getElem?_append_left hj] at h1
    rw [List.getElem?_append_left (by rw [← h.1]; exact hj)] at h2
    exact h.2 j v' r' h1 h2
  · rw [List.getElem?_append_right (by omega)] at h1
    rw [List.getElem?_append_right (by rw [← h.1]; omega)] at h2
    have e : j - vs.length = 0 := by have := (List.getElem?_eq_some_iff.mp h1).1; simp at this; omega
    rw [e] at h1
    rw [← h.1, e] at h2
    simp at h1 h2
    rw [← h1, ← h2]; exact hv
theorem Rl.at {j : Nat} {v : V} (h : Rl R vs rs) (hv : vs[j]? = some v) : ∃ r, rs[j]? = some r ∧ R v r := by
  have hj : j < rs.length := by rw [← h.1]; exact (List.getElem?_eq_some_iff.mp hv).1
  exact ⟨rs[j], List.getElem?_eq_getElem hj, h.2 j v _ hv (List.getElem?_eq_getElem hj)⟩
end
theorem sqS {K : PySem.W.Frag} {H H' : Hp} {a : Addr} {xs : List V} (s : Same H H') (h : SqT K H a xs) : SqT K H' a xs := (TupK.of s).sq h
theorem atS {xs : List Int} {j : Nat} (h : j < xs.length) : (xs.map V.int)[j]? = some (.int xs[j]) := by rw [List.getElem?_map, List.getElem?_eq_getElem h]; rfl
section
variable {X : Cx}
def rEqNilT (K : PySem.W.Frag) : R2 := fun x y H Q => ∃ (a b : Addr) (xs : List V), x = .ref a ∧ y = .ref b ∧ SqT K H a xs ∧ SqT K H b [] ∧ Q (.bl xs.isEmpty) H
theorem op_eqNilT (hu : X.A.units < cLine) : OpR X (compareOp .Eq) (rEqNilT X.K) := by
  intro pins s σ H x y v u Q I rx ry h
  obtain ⟨a, b, xs, rfl, rfl, ha, hb, q⟩ := h
  cases rx
  cases ry
  obtain ⟨its, r1, p1, z1⟩ := I.tuple ha
  obtain ⟨its2, r2, p2, z2⟩ := I.tuple hb
  cases r2
  have hl := r1.length
  have key := SeqAt.RcAt.tuples (A := X.A) (e := fun _ => true) (show s.heap.IsTuple a its.toArray from p1) (show s.heap.IsTuple b ([] : List Value).toArray from p2) hu (fun j _ h2 => absurd h2 (Nat.not_lt_zero _)) X.prog X.w
  have e : ((List.range (min its.toArray.size ([] : List Value).toArray.size)).all (fun _ => true) && its.toArray.size == ([] : List Value).toArray.size) = xs.isEmpty := by
    rw [List.size_toArray, ← hl]
    cases xs <;> simp
  rw [e] at key
  exact key _ _ ⟨.bl _, H, I, rfl, q⟩
end
end Pv

namespace Pv
open PySem PySem.Spec PyProof.Rows L2
/-! repr of any such value -/
theorem call_reprA {X : Cx} (hg : X.A.guards = some []) (hu : X.A.units + 70 < cLine) : CallR X (.builtin "repr")
    (fun xs H Q => ∃ v d st r, xs = [v] ∧ Dq X.K st r H v d ∧ d.showable = true ∧ d.depth ≤ 60 ∧ d.shown.length ≤ sizeLine ∧ Q (.str d.shown) H) := by
  intro pins s σ H xs us Q I rv h
  obtain ⟨v, d, st, r, rfl, hd, h1, h3, h4, q⟩ := h
  by_cases hv : ∃ a, v = .ref a
  · obtain ⟨a, rfl⟩ := hv
    exact call_reprQ hg hu pins s σ H _ us Q I rv ⟨a, d, st, r, rfl, hd, h1, h3, h4, q⟩
  · obtain ⟨u, rfl, ru⟩ := vals1 rv
    cases hd with
    | non => cases ru; exact PySem.P.repr_of_none ⟨.str _, H, I.tok _, ⟨_, rfl⟩, q⟩
    | bl b => cases ru; cases b <;> exact PySem.P.repr_of_bool ⟨.str _, H, I.tok _, ⟨_, rfl⟩, q⟩
    | int i =>
      obtain ⟨t, rfl⟩ := ru
      exact PySem.P.repr_of_int (by simpa [PyData.showable] using h1) ⟨.str _, H, I.tok _, ⟨_, rfl⟩, q⟩
    | str x =>
      obtain ⟨t, rfl⟩ := ru
      exact PySem.P.repr_of_str ⟨.str _, H, I.tok _, ⟨_, rfl⟩, q⟩ h4
    | lst _ => exact absurd ⟨_, rfl⟩ hv
    | tup _ => exact absurd ⟨_, rfl⟩ hv
    | dct _ => exact absurd ⟨_, rfl⟩ hv
/-! written values -/
def tLit (K : PySem.W.Frag) (d : PyData) : TE := fun _ H Q => ∃ st r, (H st ≠ none ∧ H r ≠ none) ∧ ∀ H' v, Same H H' → Dq K st r H' v d → Q v H'
def tLits (K : PySem.W.Frag) (ds : List PyData) : TA := fun _ H Q => ∃ st r, (H st ≠ none ∧ H r ≠ none) ∧ ∀ H' vs, Same H H' → DqAll K st r H' vs ds → Q vs H'
theorem occ {H H' : Hp} {st r : Addr} (h : H st ≠ none ∧ H r ≠ none) (s : Same H H') : H' st ≠ none ∧ H' r ≠ none := by
  obtain ⟨h1, h2⟩ := h
  constructor
  · cases e : H st with
    | none => exact absurd e h1
    | some o => rw [s _ _ e]; simp
  · cases e : H r with
    | none => exact absurd e h2
    | some o => rw [s _ _ e]; simp
theorem occ_ne {H : Hp} {st r p : Addr} (h : H st ≠ none ∧ H r ≠ none) (np : H p = none) : p ≠ st ∧ p ≠ r := ⟨fun e => h.1 (e ▸ np), fun e => h.2 (e ▸ np)⟩
theorem DqAll.rep {K : PySem.W.Frag} {st r : Addr} {H : Hp} {vs : List V} {ds : List PyData} (h : DqAll K st r H vs ds) : ∀ k : Nat, DqAll K st r H (List.replicate k vs).flatten (List.replicate k ds).flatten
  | 0 => .nil
  | k + 1 => by
    rw [List.replicate_succ, List.replicate_succ, List.flatten_cons, List.flatten_cons]
    exact h.app (DqAll.rep h k)
section
variable {X : Cx} {e : Expr} {es : List Expr} {pos p1 p2 : Pos} {d : PyData} {ds : List PyData}
theorem pe_mono {t t' : TE} (h : PE X e t) (m : ∀ σ H Q, t' σ H Q → t σ H Q) : PE X e t' := ⟨fun pins s σ H Q I q => h.run pins s σ H Q I (m _ _ _ q)⟩
theorem pa_mono {t t' : TA} (h : PA X es t) (m : ∀ σ H Q, t' σ H Q → t σ H Q) : PA X es t' := ⟨fun pos pins s σ H Q I q => h.run pos pins s σ H Q I (m _ _ _ q)⟩
theorem lit_c {v : V} (h : PE X e (tC v)) (hd : ∀ st r H, Dq X.K st r H v d) : PE X e (tLit X.K d) := pe_mono h fun σ H Q ⟨st, r, _, q⟩ => q H v (Same.refl H) (hd st r H)
theorem lit_int {n : Int} (h : PE X e (tC (.int n))) : PE X e (tLit X.K (.int n)) := lit_c h fun _ _ _ => .int n
theorem lit_bl {b : Bool} (h : PE X e (tC (.bl b))) : PE X e (tLit X.K (.bool b)) := lit_c h fun _ _ _ => .bl b
theorem lit_str {x : Str} (h : PE X e (tC (.str x))) : PE X e (tLit X.K (.str x)) := lit_c h fun _ _ _ => .str x
theorem lit_non (h : PE X e (tC .non)) : PE X e (tLit X.K .none) := lit_c h fun _ _ _ => .non
theorem lit_pow {a b : Int} (h : PE X e (tOp (rI CPow fun i j => .int (i ^ j.toNat)) (tC (.int a)) (tC (.int b)))) (hc : CPow a b) : PE X e (tLit X.K (.int (a ^ b.toNat))) :=
  pe_mono h fun σ H Q ⟨st, r, _, q⟩ => ⟨a, b, rfl, rfl, hc, q H _ (Same.refl H) (.int _)⟩
theorem lit_add {e1 e2 : Expr} {a b : Int} (h1 : PE X e1 (tLit X.K (.int a))) (h2 : PE X e2 (tLit X.K (.int b))) : PE X (.BinOp e1 .Add e2 pos) (tLit X.K (.int (a + b))) :=
  pe_mono (pe_op op_add h1 h2) fun σ H Q ⟨st, r, oc, q⟩ => ⟨st, r, oc, fun H1 v1 s1 d1 => ⟨st, r, occ oc s1, fun H2 v2 s2 d2 => by
    cases d1; cases d2
    exact ⟨a, b, rfl, rfl, q H2 _ (s1.trans s2) (.int _)⟩⟩⟩
theorem lits_nil : PA X [] (tLits X.K []) := pa_mono pa_nil fun σ H Q ⟨st, r, _, q⟩ => q H [] (Same.refl H) .nil
theorem lits_cons (h : PE X e (tLit X.K d)) (hs : PA X es (tLits X.K ds)) (hq : starEach (e :: es) X.env = (false, eval e X.env) :: starEach es X.env := by rfl) : PA X (e :: es) (tLits X.K (d :: ds)) :=
  pa_mono (pa_cons h hs hq) fun σ H Q ⟨st, r, oc, q⟩ => ⟨st, r, oc, fun H1 v s1 d1 => ⟨st, r, occ oc s1, fun H2 vs s2 d2 => q H2 _ (s1.trans s2) (.cons (d1.lasts (.of s2)) d2)⟩⟩
theorem small6 {n : Nat} (h : n ≤ 1000000) : n ≤ sizeLine := Nat.le_of_lt (Nat.lt_of_le_of_lt h (by decide))
theorem lit_tup {k : Nat} (h : PA X es (tLits X.K ds)) (hl : ds.length ≤ 1000000) : PE X (.Tuple es k pos) (tLit X.K (.tuple ds)) :=
  pe_mono (pe_tup h) fun σ H Q ⟨st, r, oc, q⟩ => ⟨st, r, oc, fun H1 vs s1 d1 => ⟨by rw [DqAll.len d1]; exact small6 hl, fun p np => q _ _ (s1.trans (sameNew np)) (.tup (SqT.of upd_same) (d1.lasts (.of (sameNew np))))⟩⟩
theorem lit_lst (h : PA X es (tLits X.K ds)) (hl : ds.length ≤ 1000000) : PE X (.List es pos) (tLit X.K (.list ds)) :=
  pe_mono (pe_lstS h) fun σ H Q ⟨st, r, oc, q⟩ => ⟨st, r, oc, fun H1 vs s1 d1 => ⟨by rw [DqAll.len d1]; exact small6 hl, fun p np ns => q _ _ (s1.trans (sameNew np)) (.lst upd_same (occ_ne (occ oc s1) np).1 (occ_ne (occ oc s1) np).2 ns (d1.lasts (.of (sameNew np))))⟩⟩
theorem lit_dict : PE X (.Dict [] [] pos) (tLit X.K (.dict [])) :=
  pe_mono pe_dnewK fun σ H Q ⟨st, r, oc, q⟩ => fun p np => q _ _ (sameNew np) (.dct (kvs := []) upd_same)
theorem lit_rep {e2 : Expr} {n : Int} (k : Nat) (h : PE X e (tLit X.K (.tuple ds))) (h2 : PE X e2 (tC (.int n))) (hk : n = (k : Nat)) (h1 : k ≠ 1) (hne : ds ≠ []) (hk2 : k ≤ 1000) (hl : ds.length ≤ 1000) :
    PE X (.BinOp e .Mult e2 pos) (tLit X.K (.tuple (List.replicate k ds).flatten)) :=
  pe_mono (pe_op op_repA h h2) fun σ H Q ⟨st, r, oc, q⟩ => ⟨st, r, oc, fun H1 v s1 d1 => by
    cases d1 with
    | @tup a xs _ hT ha =>
      have hx := DqAll.len ha
      refine ⟨a, k, xs, rfl, by rw [hk], hT, ?_, hk2, by omega, fun z => absurd z h1, fun _ p np => q _ _ (s1.trans (sameNew np)) (.tup (SqT.of upd_same) ((ha.rep k).lasts (.of (sameNew np))))⟩
      intro z
      subst z
      exact hne (List.eq_nil_of_length_eq_zero (by simpa using hx.symm))⟩
end
/-- a list and a written list behind it -/
theorem cat_lits {K : PySem.W.Frag} {st r L : Addr} {σ : L2.St} {H1 : Hp} {ds es : List PyData} {Q : VK} {vs : List V} (e1 : H1 L = some (.lst vs)) (h1 : DqAll K st r H1 vs ds) (hoc : H1 st ≠ none ∧ H1 r ≠ none) (hlen : ds.length + es.length ≤ 1000000)
    (hq : ∀ H' L' vs', Same H1 H' → H' L' = some (.lst vs') → L' ≠ st → L' ≠ r → DqAll K st r H' vs' (ds ++ es) → Q (.ref L') H') : tLst (tLits K es) σ H1 (fun y H2 => rCat (.ref L) y H2 Q) := by
  refine ⟨st, r, hoc, fun H2 v2 s2 h2 => ⟨by rw [DqAll.len h2]; exact small6 (by omega), fun M nM => ?_⟩⟩
  refine ⟨L, M, vs, v2, rfl, rfl, upNew nM (s2 _ _ e1), upd_same, by rw [DqAll.len h1, DqAll.len h2]; exact small6 (by omega), fun N nN => ?_⟩
  have sM := sameNew (o := .lst v2) nM
  have sN := sameNew (o := .lst (vs ++ v2)) nN
  have s1N := (s2.trans sM).trans sN
  have hN := occ_ne (occ (occ hoc s2) sM) nN
  exact hq _ N _ s1N upd_same hN.1 hN.2 ((h1.lasts (.of s1N)).app (h2.lasts (.of (sM.trans sN))))
/-! how large, by looking -/
mutual
def fitB (M L : Nat) : PyData → Bool
  | .none => true
  | .bool _ => true
  | .int i => decide (i.natAbs ≤ M)
  | .str x => decide ((reprText x).length ≤ L)
  | .list xs => fitAllB M L xs
  | .tuple xs => fitAllB M L xs
  | .dict kvs => decide ((PyData.shown (.dict kvs)).length ≤ 40) && PyData.showable (.dict kvs)
def fitAllB (M L : Nat) : List PyData → Bool
  | [] => true
  | x :: xs => fitB M L x && fitAllB M L xs
end
end Pv

namespace Pv
open PySem PySem.Spec PyProof.Rows L2
section
variable {K : PySem.W.Frag} {H : Hp} {a b : Addr} {xs ys : List V} {Q : VK}
/-! slices and sums of tuples, whichever object comes back -/
theorem take_eq (hP : SqT K H a xs) (n : Nat) (h : ∀ (H' : Hp) (b : Addr), Same H H' → SqT K H' b (xs.take n) → Q (.ref b) H') : rSlA K (.ref a) none (some (n : Int)) H Q := by
  have hcut : cutV xs none (some (n : Int)) = xs.take n := cut_to _ n
  refine ⟨a, _, rfl, hP, fun hw => ?_, fun _ p np => ?_⟩
  · refine h H a (Same.refl _) ?_
    have e : xs.take n = xs := by
      rw [← hcut]
      unfold cutV
      rw [hw.1, hw.2, List.drop_zero, Nat.sub_zero, List.take_length]
    rw [e]; exact hP
  · refine h _ p (sameNew np) (SqT.of ?_)
    rw [upd_same, hcut]
theorem cut_tail (xs : List V) (n : Nat) : cutV xs (some (n : Int)) none = xs.drop n := by
  unfold cutV
  rw [HT.sIx_nat, HT.sIx_none]
  by_cases h : n ≤ xs.length
  · rw [Nat.min_eq_left h, List.take_of_length_le (by rw [List.length_drop]; exact Nat.le_refl _)]
  · rw [Nat.min_eq_right (by omega), List.drop_eq_nil_of_le (Nat.le_refl _), List.drop_eq_nil_of_le (by omega)]; simp
theorem drop_eq (hP : SqT K H a xs) (n : Nat) (h : ∀ (H' : Hp) (b : Addr), Same H H' → SqT K H' b (xs.drop n) → Q (.ref b) H') : rSlA K (.ref a) (some (n : Int)) none H Q := by
  have hcut := cut_tail xs n
  refine ⟨a, _, rfl, hP, fun hw => ?_, fun _ p np => ?_⟩
  · refine h H a (Same.refl _) ?_
    have e : xs.drop n = xs := by
      rw [← hcut]
      unfold cutV
      rw [hw.1, hw.2, List.drop_zero, Nat.sub_zero, List.take_length]
    rw [e]; exact hP
  · refine h _ p (sameNew np) (SqT.of ?_)
    rw [upd_same, hcut]
theorem cat_eq (ha : SqT K H a xs) (hb : SqT K H b ys) (hz : xs.length + ys.length ≤ sizeLine) (h : ∀ (H' : Hp) (p : Addr), Same H H' → SqT K H' p (xs ++ ys) → Q (.ref p) H') : rCatA K (.ref a) (.ref b) H Q := by
  refine ⟨a, b, xs, ys, rfl, rfl, ha, hb, hz, fun e => ?_, fun _ e => ?_, fun _ _ p np => ?_⟩
  · subst e; exact h H b (Same.refl _) (by simpa using hb)
  · subst e; exact h H a (Same.refl _) (by simpa using ha)
  · exact h _ p (sameNew np) (SqT.of upd_same)
end
/-! the greatest of a tuple of ints -/
def rMaxT (K : PySem.W.Frag) : RC := fun xs H Q => ∃ (a : Addr) (ns : List Int), xs = [.ref a] ∧ SqT K H a (ns.map V.int) ∧ 0 < ns.length ∧ ∀ m, m ∈ ns → (∀ y ∈ ns, y ≤ m) → Q (.int m) H
theorem call_maxT {X : Cx} (hc : X.calm = true) : CallR X (.builtin "max") (rMaxT X.K) := by
  intro pins s σ H xs us Q I r h
  obtain ⟨a, ns, rfl, hT, hne, q⟩ := h
  obtain ⟨u, rfl, rfl⟩ := vals1 r
  obtain ⟨its, rv, ht, hz⟩ := I.tuple hT
  have hi : IntsAre its ns := rv.ints
  obtain ⟨ys, e⟩ := hi.allInts.items
  have hn : numsOf (intItems ys).toList = ns := by rw [← e]; exact hi.numsOf
  rw [nums_intItems] at hn
  rw [e] at ht
  subst hn
  have hsz : 0 < ys.size := by simpa using hne
  have ht' : s.heap.IsTuple a (intItems ys) := ht
  have hlt : a < s.heap.objs.size := by obtain ⟨_, z, _⟩ := ht; exact Heap.lt_size z
  refine call_max_walk (wpAny_pyIter_tuple ht' ?_)
  refine ⟨_, _, _, _, _, _, _, rfl, Walks.tuple (A := X.A.in1) (I.ok.hd hc) _ a (Nat.ne_of_lt hlt) (intItems ys), ⟨⟨_, Heap.get?_push_size _ rfl, rfl, rfl⟩, ht'.push _⟩, ?_, by simpa [intItems] using hsz, CmpOf.ints_gt (numAt ys) (fun _ _ => intItems_at), ?_⟩
  · intro b hb
    show b < (s.heap.push _).objs.size
    rw [Heap.size_push]
    simp only [List.mem_cons, List.not_mem_nil, or_false] at hb
    rcases hb with rfl | rfl
    · exact Nat.lt_succ_self _
    · exact Nat.lt_succ_of_lt hlt
  · intro v h' tk hP hk
    have hP' : (intItems ys)[argBest (fun i j => decide (numAt ys i > numAt ys j)) (ys.size - 1)]? = some v := by simpa [intItems] using hP
    obtain ⟨t, rfl⟩ := intItems_at hP'
    obtain ⟨h1, h2⟩ := argBest_gt (numAt ys) (ys.size - 1)
    refine ⟨.int _, H, I.kept (t' := tk) (h' := h') ?_, ⟨_, rfl⟩, q _ ?_ ?_⟩
    · intro b o eb
      refine hk b o (fun hm => ?_) (Heap.get?_push_of_some _ eb)
      exact absurd (Heap.lt_size eb) ((List.mem_singleton.mp hm) ▸ Nat.lt_irrefl _)
    · rw [numAt_eq]; exact PySem.getD_mem (by rw [List.length_map, Array.length_toList]; omega)
    · intro y hy
      obtain ⟨j, hj, rfl⟩ := mem_getD hy
      rw [List.length_map, Array.length_toList] at hj
      rw [← numAt_eq]; exact h2 j (by omega)
end Pv

namespace Pv
open PySem PySem.Spec PyProof.Rows L2
section
variable {X : Cx} {e : Expr}
theorem lit_neg {n : Int} (h : PE X e (tUn (rU fun i => .int (-i)) (tC (.int n)))) : PE X e (tLit X.K (.int (-n))) :=
  pe_mono h fun σ H Q ⟨st, r, _, q⟩ => ⟨n, rfl, q H _ (Same.refl H) (.int _)⟩
theorem lit_a1 (h : PE X e (tDisp [(tC (.str "a"), tC (.int 1))])) : PE X e (tLit X.K (.dict [(.str "a", .int 1)])) :=
  pe_mono h fun σ H Q ⟨st, r, oc, q⟩ => fun p np => ⟨upd_same, [(.inr "a", .int 1)], rfl, by decide, by
    rw [upd_upd]
    exact q _ _ (sameNew np) (.dct (kvs := [(.inr "a", 1)]) (by rw [upd_same]; rfl))⟩
end
section
variable {K : PySem.W.Frag} {H : Hp} {a b : Addr} {xs ys : List V} {Q : VK}
theorem sl_any (hP : SqT K H a xs) (lo hi : Option Int) (h : ∀ (H' : Hp) (b : Addr), Same H H' → SqT K H' b (cutV xs lo hi) → Q (.ref b) H') : rSlA K (.ref a) lo hi H Q := by
  refine ⟨a, _, rfl, hP, fun hw => ?_, fun _ p np => ?_⟩
  · refine h H a (Same.refl _) ?_
    have e : cutV xs lo hi = xs := by
      unfold cutV
      rw [hw.1, hw.2, List.drop_zero, Nat.sub_zero, List.take_length]
    rw [e]; exact hP
  · exact h _ p (sameNew np) (SqT.of upd_same)
theorem cut_ints (xs : List Int) (lo hi : Option Int) : ∃ zs : List Int, cutV (xs.map V.int) lo hi = zs.map V.int ∧ zs.length ≤ xs.length ∧ ∀ z ∈ zs, z ∈ xs := by
  unfold cutV
  generalize HT.sIx (xs.map V.int).length 0 lo = m
  generalize HT.sIx (xs.map V.int).length (xs.map V.int).length hi - m = n
  refine ⟨(xs.drop m).take n, by rw [List.map_take, List.map_drop], ?_, fun z hz => List.mem_of_mem_drop (List.mem_of_mem_take hz)⟩
  rw [List.length_take, List.length_drop]; omega
end
/-! a tuple of ints, of at most L and at most M in size -/
def IT (K : PySem.W.Frag) (H : Hp) (p : Addr) (L M : Nat) : Prop := ∃ xs : List Int, SqT K H p (xs.map V.int) ∧ xs.length ≤ L ∧ ∀ x ∈ xs, x.natAbs ≤ M
section
variable {K : PySem.W.Frag} {H H' : Hp} {a b : Addr} {L L' M M' : Nat} {Q : VK}
theorem IT.tk (h : IT K H a L M) (s : TupK H H') : IT K H' a L M := by obtain ⟨xs, h1, h2⟩ := h; exact ⟨xs, s.sq h1, h2⟩
theorem IT.same (h : IT K H a L M) (s : Same H H') : IT K H' a L M := h.tk (.of s)
theorem IT.mono (h : IT K H a L M) (h1 : L ≤ L') (h2 : M ≤ M') : IT K H a L' M' := by obtain ⟨xs, e, l, m⟩ := h; exact ⟨xs, e, by omega, fun x hx => by have := m x hx; omega⟩
theorem IT.cut (h : IT K H a L M) (lo hi : Option Int) (q : ∀ (H' : Hp) (b : Addr), Same H H' → IT K H' b L M → Q (.ref b) H') : rSlA K (.ref a) lo hi H Q := by
  obtain ⟨xs, e, l, m⟩ := h
  obtain ⟨zs, ez, lz, mz⟩ := cut_ints xs lo hi
  exact sl_any e lo hi fun H' b s hb => q H' b s ⟨zs, by rw [← ez]; exact hb, by omega, fun z hz => m z (mz z hz)⟩
theorem IT.cat (h : IT K H a L M) (h' : IT K H b L' M) (hs : L + L' ≤ 1000000) (q : ∀ (H' : Hp) (p : Addr), Same H H' → IT K H' p (L + L') M → Q (.ref p) H') : rCatA K (.ref a) (.ref b) H Q := by
  obtain ⟨xs, e, l, m⟩ := h
  obtain ⟨ys, e', l', m'⟩ := h'
  refine cat_eq e e' (by rw [List.length_map, List.length_map]; exact small6 (by omega)) fun H' p s hp => q H' p s ⟨xs ++ ys, by rw [List.map_append]; exact hp, by rw [List.length_append]; omega, fun z hz => ?_⟩
  rcases List.mem_append.mp hz with h | h
  · exact m z h
  · exact m' z h
theorem IT.dq {st r : Addr} (h : IT K H a L M) : ∃ xs : List Int, Dq K st r H (.ref a) (dI xs) ∧ xs.length ≤ L ∧ ∀ x ∈ xs, x.natAbs ≤ M := by
  obtain ⟨xs, e, l, m⟩ := h
  exact ⟨xs, .of_dp (to_ints xs) (dI_sq e), l, m⟩
end
/-! a comprehension whose elements are new objects: R tells what they show -/
def LcR {α β : Type} (R : Hp → V → β → Prop) (H1 : Hp) (D : Addr) (zs : List α) (F : α → Option β) (i : Nat) (H : Hp) : Prop := Same H1 H ∧ ∃ vs, H D = some (.lst vs) ∧ Rl (R H) vs ((zs.take i).filterMap F)
section
variable {α β : Type} {R : Hp → V → β → Prop} {H1 H H' : Hp} {D : Addr} {zs : List α} {F : α → Option β} {i : Nat} {x : α} {y : V} {b : β}
theorem LcR.start (nD : H1 D = none) : LcR R H1 D zs F 0 (upd H1 D (.lst [])) := ⟨sameNew nD, [], upd_same, by simpa using Rl.nil⟩
theorem LcR.yes (hR : ∀ H H' v b, TupK H H' → R H v b → R H' v b) (h : LcR R H1 D zs F i H) (nD : H1 D = none) (s : Same H H') (hx : zs[i]? = some x) (hF : F x = some b) (hy : R H' y b) (hi : i ≤ 1000000) : ∃ acc, H' D = some (.lst acc) ∧ acc.length < sizeLine ∧ LcR R H1 D zs F (i + 1) (upd H' D (.lst (acc ++ [y]))) := by
  obtain ⟨s1, vs, e, hv⟩ := h
  have e' := s _ _ e
  refine ⟨vs, e', ?_, samePut (s1.trans s) nD, vs ++ [y], upd_same, ?_⟩
  · have h1 := List.length_filterMap_le F (zs.take i)
    have h2 := List.length_take_le i zs
    rw [hv.1]
    exact small (by omega)
  · have tk : TupK H' (upd H' D (.lst (vs ++ [y]))) := TupK.put e'
    rw [take_snoc hx, List.filterMap_append]
    simp only [List.filterMap_cons, hF, List.filterMap_nil]
    exact Rl.snoc (hv.mono fun v r h => hR _ _ _ _ ((TupK.of s).trans tk) h) (hR _ _ _ _ tk hy)
theorem LcR.no (hR : ∀ H H' v b, TupK H H' → R H v b → R H' v b) (h : LcR R H1 D zs F i H) (s : Same H H') (hx : zs[i]? = some x) (hF : F x = none) : LcR R H1 D zs F (i + 1) H' := by
  obtain ⟨s1, vs, e, hv⟩ := h
  refine ⟨s1.trans s, vs, s _ _ e, ?_⟩
  rw [take_snoc hx, List.filterMap_append]
  simp only [List.filterMap_cons, hF, List.filterMap_nil, List.append_nil]
  exact hv.mono fun v r h => hR _ _ _ _ (.of s) h
theorem LcR.done (h : LcR R H1 D zs F i H) (hi : zs.length ≤ i) : ∃ vs, H D = some (.lst vs) ∧ Rl (R H) vs (zs.filterMap F) := by
  obtain ⟨_, vs, e, hv⟩ := h
  rw [List.take_of_length_le hi] at hv
  exact ⟨vs, e, hv⟩
end
end Pv

namespace Pv
open PySem PySem.Spec PyProof.Rows L2
/-! another drawing state: a list of the great numbers that are left, one number of the whole script, and how often it was mixed -/
structure DV (H : Hp) (st g : Addr) (t : Nat) : Prop where
  ex : ∃ (w : Int) (k : Nat) (gr : List Int), H st = some (.lst [.ref g, .int w, .int k]) ∧ H g = some (.lst (gr.map V.int)) ∧ 0 ≤ w ∧ w < 2305843009213693951 ∧ k ≤ t ∧ gr.length ≤ 63
  n1 : st ≠ g
section
variable {H H1 H2 : Hp} {st g p : Addr} {t : Nat} {o : HO}
theorem DV.tup (d : DV H st g t) (e : Ext st g H H1) : TupK H H1 := by
  obtain ⟨w, k, gr, hs, hg, _⟩ := d.ex
  intro b xs
  refine ⟨fun h => ?_, fun u h => ?_⟩
  · exact e _ _ h (ne_of h hs (by intro z; cases z)) (ne_of h hg (by intro z; cases z))
  · exact e _ _ h (ne_of h hs (by intro z; cases z)) (ne_of h hg (by intro z; cases z))
theorem DV.same (d : DV H st g t) (s : Same H H1) : DV H1 st g t := by
  obtain ⟨w, k, gr, hs, hg, q⟩ := d.ex
  exact ⟨⟨w, k, gr, s _ _ hs, s _ _ hg, q⟩, d.n1⟩
theorem DV.new (d : DV H st g t) (np : H p = none) : DV (upd H p o) st g t := d.same (sameNew np)
theorem DV.put (d : DV H st g t) (h1 : p ≠ st) (h2 : p ≠ g) : DV (upd H p o) st g t := by
  obtain ⟨w, k, gr, hs, hg, q⟩ := d.ex
  exact ⟨⟨w, k, gr, by rw [upd_ne h1.symm]; exact hs, by rw [upd_ne h2.symm]; exact hg, q⟩, d.n1⟩
theorem DV.off (d : DV H st g t) (np : H p = none) : p ≠ st ∧ p ≠ g := by
  obtain ⟨w, k, gr, hs, hg, q⟩ := d.ex
  exact ⟨(ne_of_none hs np).symm, (ne_of_none hg np).symm⟩
theorem DV.nil (d : DV H1 st g t) (x : Ext st g H H1) (np : H1 p = none) : H p = none := by
  obtain ⟨o1, o2⟩ := d.off np
  cases e : H p with
  | none => rfl
  | some o => have := x _ _ e o1 o2; rw [np] at this; cases this
theorem DV.lasts (d : DV H st g t) (x : Ext st g H H1) : Lasts st g H H1 := by
  obtain ⟨w, k, gr, hs, hg, _⟩ := d.ex
  refine ⟨d.tup x, fun a xs e n1 n2 => x _ _ e n1 n2, fun a kvs e => ?_⟩
  exact x _ _ e (ne_of e hs (by intro z; cases z)) (ne_of e hg (by intro z; cases z))
theorem DV.mono (d : DV H st g t) {t' : Nat} (h : t ≤ t') : DV H st g t' := by
  obtain ⟨w, k, gr, hs, hg, h1, h2, h3, h4⟩ := d.ex
  exact ⟨⟨w, k, gr, hs, hg, h1, h2, by omega, h4⟩, d.n1⟩
theorem DV.occ (d : DV H st g t) : H st ≠ none ∧ H g ≠ none := by
  obtain ⟨w, k, gr, hs, hg, _⟩ := d.ex
  exact ⟨by rw [hs]; simp, by rw [hg]; simp⟩
end
end Pv

namespace Pv
open PySem PySem.Spec PyProof.Rows L2
/-! data whose lists stand at none of the places X -/
mutual
inductive Dw (K : PySem.W.Frag) (X : Addr → Prop) (H : Hp) : V → PyData → Prop
  | non : Dw K X H .non .none
  | bl (b : Bool) : Dw K X H (.bl b) (.bool b)
  | int (i : Int) : Dw K X H (.int i) (.int i)
  | str (x : Str) : Dw K X H (.str x) (.str x)
  | lst {a : Addr} {xs : List V} {ds : List PyData} : H a = some (.lst xs) → ¬ X a → a ≠ sysModules → DwAll K X H xs ds → Dw K X H (.ref a) (.list ds)
  | tup {a : Addr} {xs : List V} {ds : List PyData} : SqT K H a xs → DwAll K X H xs ds → Dw K X H (.ref a) (.tuple ds)
  | dct {a : Addr} {kvs : List (Key × Int)} : H a = some (.dK (kvs.map fun p => (p.1, V.int p.2))) → Dw K X H (.ref a) (.dict (kvs.map fun p => (kD p.1, .int p.2)))
inductive DwAll (K : PySem.W.Frag) (X : Addr → Prop) (H : Hp) : List V → List PyData → Prop
  | nil : DwAll K X H [] []
  | cons {v : V} {vs : List V} {d : PyData} {ds : List PyData} : Dw K X H v d → DwAll K X H vs ds → DwAll K X H (v :: vs) (d :: ds)
end
structure LX (X : Addr → Prop) (H H' : Hp) : Prop where
  tk : TupK H H'
  ls : ∀ a xs, H a = some (.lst xs) → ¬ X a → H' a = some (.lst xs)
  dk : ∀ a kvs, H a = some (.dK kvs) → H' a = some (.dK kvs)
section
variable {K : PySem.W.Frag} {X X' : Addr → Prop} {H H' H2 : Hp} {st g : Addr} {t : Nat}
theorem LX.refl : LX X H H := ⟨.refl _, fun _ _ e _ => e, fun _ _ e => e⟩
theorem LX.of (s : Same H H') : LX X H H' := ⟨.of s, fun a xs e _ => s _ _ e, fun a kvs e => s _ _ e⟩
theorem LX.trans (a : LX X H H') (b : LX X H' H2) : LX X H H2 := ⟨a.tk.trans b.tk, fun p xs e n => b.ls _ _ (a.ls _ _ e n) n, fun p kvs e => b.dk _ _ (a.dk _ _ e)⟩
theorem LX.ext (d : DV H st g t) (x : Ext st g H H') (h1 : X st) (h2 : X g) : LX X H H' := by
  have l := d.lasts x
  exact ⟨l.tk, fun a xs e n => l.ls a xs e (fun z => n (z ▸ h1)) (fun z => n (z ▸ h2)), l.dk⟩
theorem LX.put {D : Addr} {ys : List V} {o : HO} (e : H D = some (.lst ys)) (h : X D) : LX X H (upd H D o) :=
  ⟨TupK.put e, fun a xs ea n => by rw [upd_ne (show a ≠ D from fun z => n (by rw [z]; exact h))]; exact ea, fun a kvs ea => by rw [upd_ne (ne_of ea e (by intro z; cases z))]; exact ea⟩
mutual
theorem Dw.lx (l : LX X H H') : ∀ {d : PyData} {v : V}, Dw K X H v d → Dw K X H' v d
  | .none, _, h => by cases h; exact .non
  | .bool _, _, h => by cases h; exact .bl _
  | .int _, _, h => by cases h; exact .int _
  | .str _, _, h => by cases h; exact .str _
  | .list _, _, h => by
    cases h with
    | lst e n1 n3 hd => exact .lst (l.ls _ _ e n1) n1 n3 (DwAll.lx l hd)
  | .tuple _, _, h => by
    cases h with
    | tup e hd => exact .tup (l.tk.sq e) (DwAll.lx l hd)
  | .dict _, _, h => by
    cases h with
    | dct e => exact .dct (l.dk _ _ e)
theorem DwAll.lx (l : LX X H H') : ∀ {ds : List PyData} {vs : List V}, DwAll K X H vs ds → DwAll K X H' vs ds
  | [], _, h => by cases h; exact .nil
  | _ :: _, _, h => by
    cases h with
    | cons h1 h2 => exact .cons (Dw.lx l h1) (DwAll.lx l h2)
end
mutual
theorem Dw.weak (l : ∀ a, X' a → X a) : ∀ {d : PyData} {v : V}, Dw K X H v d → Dw K X' H v d
  | .none, _, h => by cases h; exact .non
  | .bool _, _, h => by cases h; exact .bl _
  | .int _, _, h => by cases h; exact .int _
  | .str _, _, h => by cases h; exact .str _
  | .list _, _, h => by
    cases h with
    | lst e n1 n3 hd => exact .lst e (fun z => n1 (l _ z)) n3 (DwAll.weak l hd)
  | .tuple _, _, h => by
    cases h with
    | tup e hd => exact .tup e (DwAll.weak l hd)
  | .dict _, _, h => by
    cases h with
    | dct e => exact .dct e
theorem DwAll.weak (l : ∀ a, X' a → X a) : ∀ {ds : List PyData} {vs : List V}, DwAll K X H vs ds → DwAll K X' H vs ds
  | [], _, h => by cases h; exact .nil
  | _ :: _, _, h => by
    cases h with
    | cons h1 h2 => exact .cons (Dw.weak l h1) (DwAll.weak l h2)
end
mutual
theorem Dw.dq {r : Addr} (h1 : X st) (h2 : X r) : ∀ {d : PyData} {v : V}, Dw K X H v d → Dq K st r H v d
  | .none, _, h => by cases h; exact .non
  | .bool _, _, h => by cases h; exact .bl _
  | .int _, _, h => by cases h; exact .int _
  | .str _, _, h => by cases h; exact .str _
  | .list _, _, h => by
    cases h with
    | lst e n1 n3 hd => exact .lst e (fun z => n1 (z ▸ h1)) (fun z => n1 (z ▸ h2)) n3 (DwAll.dq h1 h2 hd)
  | .tuple _, _, h => by
    cases h with
    | tup e hd => exact .tup e (DwAll.dq h1 h2 hd)
  | .dict _, _, h => by
    cases h with
    | dct e => exact .dct e
theorem DwAll.dq {r : Addr} (h1 : X st) (h2 : X r) : ∀ {ds : List PyData} {vs : List V}, DwAll K X H vs ds → DqAll K st r H vs ds
  | [], _, h => by cases h; exact .nil
  | _ :: _, _, h => by
    cases h with
    | cons a b => exact .cons (Dw.dq h1 h2 a) (DwAll.dq h1 h2 b)
end
mutual
theorem Dw.of_dp : ∀ {d : PyData} {v : V}, tupOnly d = true → Dp K H v d → Dw K X H v d
  | .none, _, _, h => by cases h; exact .non
  | .bool _, _, _, h => by cases h; exact .bl _
  | .int _, _, _, h => by cases h; exact .int _
  | .str _, _, _, h => by cases h; exact .str _
  | .list _, _, t, _ => by simp [tupOnly] at t
  | .tuple _, _, t, h => by
    cases h with
    | tup e hd => exact .tup e (DwAll.of_dp (by simpa [tupOnly] using t) hd)
  | .dict _, _, t, _ => by simp [tupOnly] at t
theorem DwAll.of_dp : ∀ {ds : List PyData} {vs : List V}, tupOnlyAll ds = true → DpAll K H vs ds → DwAll K X H vs ds
  | [], _, _, h => by cases h; exact .nil
  | d :: ds, _, t, h => by
    have t' : tupOnly d = true ∧ tupOnlyAll ds = true := by simpa [tupOnlyAll] using t
    cases h with
    | cons h1 h2 => exact .cons (Dw.of_dp t'.1 h1) (DwAll.of_dp t'.2 h2)
end
theorem DwAll.len : ∀ {vs : List V} {ds : List PyData}, DwAll K X H vs ds → vs.length = ds.length
  | _, _, .nil => rfl
  | _, _, .cons _ t => by simp [DwAll.len t]
theorem DwAll.at : ∀ {vs : List V} {ds : List PyData} {i : Nat} {v : V}, DwAll K X H vs ds → vs[i]? = some v → ∃ d, ds[i]? = some d ∧ Dw K X H v d
  | _, _, _, _, .nil, e => by simp at e
  | _, _, 0, _, .cons h _, e => by simp at e; subst e; exact ⟨_, rfl, h⟩
  | _, _, i + 1, v, .cons _ t, e => by
    obtain ⟨d, h1, h2⟩ := DwAll.at (i := i) t (by simpa using e)
    exact ⟨d, by simpa using h1, h2⟩
theorem DwAll.app : ∀ {vs ws : List V} {ds es : List PyData}, DwAll K X H vs ds → DwAll K X H ws es → DwAll K X H (vs ++ ws) (ds ++ es)
  | _, _, _, _, .nil, h => h
  | _, _, _, _, .cons h t, h' => .cons h (DwAll.app t h')
theorem DwAll.snoc {vs : List V} {ds : List PyData} {v : V} {d : PyData} (h : DwAll K X H vs ds) (h' : Dw K X H v d) : DwAll K X H (vs ++ [v]) (ds ++ [d]) := h.app (.cons h' .nil)
end
/-- all that stands -/
def dom (H : Hp) (a : Addr) : Prop := H a ≠ none
theorem dom_same {H H' : Hp} (s : Same H H') {a : Addr} (h : dom H a) : dom H' a := by
  unfold dom at *
  cases e : H a with
  | none => exact absurd e h
  | some o => rw [s _ _ e]; simp
theorem dom_new {H H' : Hp} (s : Same H H') {p : Addr} (np : H' p = none) : ¬ dom H p := fun h => dom_same s h np
/-! written values -/
def tLw (K : PySem.W.Frag) (d : PyData) : TE := fun _ H Q => ∃ X : Addr → Prop, (∀ a, X a → dom H a) ∧ ∀ H' v, Same H H' → Dw K X H' v d → Q v H'
def tLws (K : PySem.W.Frag) (ds : List PyData) : TA := fun _ H Q => ∃ X : Addr → Prop, (∀ a, X a → dom H a) ∧ ∀ H' vs, Same H H' → DwAll K X H' vs ds → Q vs H'
section
variable {X : Cx} {e : Expr} {es : List Expr} {pos p1 p2 : Pos} {d : PyData} {ds : List PyData}
theorem lw_c {v : V} (h : PE X e (tC v)) (hd : ∀ Y H, Dw X.K Y H v d) : PE X e (tLw X.K d) := pe_mono h fun σ H Q ⟨Y, _, q⟩ => q H v (Same.refl H) (hd Y H)
theorem lw_int {n : Int} (h : PE X e (tC (.int n))) : PE X e (tLw X.K (.int n)) := lw_c h fun _ _ => .int n
theorem lw_bl {b : Bool} (h : PE X e (tC (.bl b))) : PE X e (tLw X.K (.bool b)) := lw_c h fun _ _ => .bl b
theorem lw_str {x : Str} (h : PE X e (tC (.str x))) : PE X e (tLw X.K (.str x)) := lw_c h fun _ _ => .str x
theorem lw_non (h : PE X e (tC .non)) : PE X e (tLw X.K .none) := lw_c h fun _ _ => .non
theorem lw_neg {n : Int} (h : PE X e (tUn (rU fun i => .int (-i)) (tC (.int n)))) : PE X e (tLw X.K (.int (-n))) :=
  pe_mono h fun σ H Q ⟨Y, _, q⟩ => ⟨n, rfl, q H _ (Same.refl H) (.int _)⟩
theorem lw_pow {a b : Int} (h : PE X e (tOp (rI CPow fun i j => .int (i ^ j.toNat)) (tC (.int a)) (tC (.int b)))) (hc : CPow a b) : PE X e (tLw X.K (.int (a ^ b.toNat))) :=
  pe_mono h fun σ H Q ⟨Y, _, q⟩ => ⟨a, b, rfl, rfl, hc, q H _ (Same.refl H) (.int _)⟩
theorem lw_add {e1 e2 : Expr} {a b : Int} (h1 : PE X e1 (tLw X.K (.int a))) (h2 : PE X e2 (tLw X.K (.int b))) : PE X (.BinOp e1 .Add e2 pos) (tLw X.K (.int (a + b))) :=
  pe_mono (pe_op op_add h1 h2) fun σ H Q ⟨Y, oc, q⟩ => ⟨Y, oc, fun H1 v1 s1 d1 => ⟨Y, fun a h => dom_same s1 (oc a h), fun H2 v2 s2 d2 => by
    cases d1; cases d2
    exact ⟨a, b, rfl, rfl, q H2 _ (s1.trans s2) (.int _)⟩⟩⟩
theorem lws_nil : PA X [] (tLws X.K []) := pa_mono pa_nil fun σ H Q ⟨Y, _, q⟩ => q H [] (Same.refl H) .nil
theorem lws_cons (h : PE X e (tLw X.K d)) (hs : PA X es (tLws X.K ds)) (hq : starEach (e :: es) X.env = (false, eval e X.env) :: starEach es X.env := by rfl) : PA X (e :: es) (tLws X.K (d :: ds)) :=
  pa_mono (pa_cons h hs hq) fun σ H Q ⟨Y, oc, q⟩ => ⟨Y, oc, fun H1 v s1 d1 => ⟨Y, fun a h => dom_same s1 (oc a h), fun H2 vs s2 d2 => q H2 _ (s1.trans s2) (.cons (d1.lx (.of s2)) d2)⟩⟩
theorem lw_tup {k : Nat} (h : PA X es (tLws X.K ds)) (hl : ds.length ≤ 1000000) : PE X (.Tuple es k pos) (tLw X.K (.tuple ds)) :=
  pe_mono (pe_tup h) fun σ H Q ⟨Y, oc, q⟩ => ⟨Y, oc, fun H1 vs s1 d1 => ⟨by rw [DwAll.len d1]; exact small6 hl, fun p np => q _ _ (s1.trans (sameNew np)) (.tup (SqT.of upd_same) (d1.lx (.of (sameNew np))))⟩⟩
theorem lw_lst (h : PA X es (tLws X.K ds)) (hl : ds.length ≤ 1000000) : PE X (.List es pos) (tLw X.K (.list ds)) :=
  pe_mono (pe_lstS h) fun σ H Q ⟨Y, oc, q⟩ => ⟨Y, oc, fun H1 vs s1 d1 => ⟨by rw [DwAll.len d1]; exact small6 hl, fun p np ns => q _ _ (s1.trans (sameNew np)) (.lst upd_same (fun h => dom_new s1 np (oc _ h)) ns (d1.lx (.of (sameNew np))))⟩⟩
theorem lw_dict : PE X (.Dict [] [] pos) (tLw X.K (.dict [])) :=
  pe_mono pe_dnewK fun σ H Q ⟨Y, oc, q⟩ => fun p np => q _ _ (sameNew np) (.dct (kvs := []) upd_same)
theorem lw_a1 (h : PE X e (tDisp [(tC (.str "a"), tC (.int 1))])) : PE X e (tLw X.K (.dict [(.str "a", .int 1)])) :=
  pe_mono h fun σ H Q ⟨Y, oc, q⟩ => fun p np => ⟨upd_same, [(.inr "a", .int 1)], rfl, by decide, by
    rw [upd_upd]
    exact q _ _ (sameNew np) (.dct (kvs := [(.inr "a", 1)]) (by rw [upd_same]; rfl))⟩
end
end Pv

namespace Pv
open PySem PySem.Spec PyProof.Rows L2
/-! how large data is -/
mutual
def fit (M : Nat) : PyData → Prop
  | .none => True
  | .bool _ => True
  | .int i => i.natAbs ≤ M
  | .str x => (reprText x).length ≤ 400
  | .list xs => fitAll M xs
  | .tuple xs => fitAll M xs
  | .dict kvs => (PyData.shown (.dict kvs)).length ≤ 40 ∧ PyData.showable (.dict kvs) = true
def fitAll (M : Nat) : List PyData → Prop
  | [] => True
  | x :: xs => fit M x ∧ fitAll M xs
end
mutual
def wt : PyData → Nat
  | .none => 40
  | .bool _ => 40
  | .int _ => 40
  | .str _ => 400
  | .list xs => wtAll xs + 3
  | .tuple xs => wtAll xs + 3
  | .dict _ => 40
def wtAll : List PyData → Nat
  | [] => 0
  | x :: xs => wt x + 2 + wtAll xs
end
theorem int_text {i : Int} {M : Nat} (h : i.natAbs ≤ M) (hM : M < 10 ^ 35) : (PyData.int i).showable = true ∧ (PyData.int i).shown.length ≤ 40 := by
  have h' : i.natAbs < 10 ^ 35 := by omega
  refine ⟨?_, ?_⟩
  · simp only [PyData.showable, decide_eq_true_eq]
    have : i.natAbs.log2 < 200 := by
      by_cases h0 : i.natAbs = 0
      · rw [h0]; decide
      · exact (Nat.log2_lt h0).mpr (Nat.lt_trans h' (by decide))
    omega
  · have e := int_text_length_le10 (k := 35) (by decide) h'
    show (Str.ofString (toString i)).length ≤ 40
    rw [PySem.ofString_length]
    omega
mutual
theorem fit_ok {M : Nat} (hM : M < 10 ^ 35) : ∀ {d : PyData}, fit M d → d.showable = true ∧ d.shown.length ≤ wt d
  | .none, _ => by simp only [PyData.showable, PyData.shown, wt]; decide
  | .bool b, _ => by cases b <;> (simp only [PyData.showable, PyData.shown, wt]; decide)
  | .int i, h => by
    have := int_text (i := i) (M := M) (by simpa only [fit] using h) hM
    simp only [wt]; exact this
  | .str x, h => by simp only [fit] at h; simp only [PyData.showable, PyData.shown, wt]; exact ⟨trivial, h⟩
  | .list xs, h => by
    obtain ⟨h1, h2⟩ := fitAll_ok hM (xs := xs) (by simpa only [fit] using h)
    simp only [PyData.showable, PyData.shown, wt]
    refine ⟨h1, ?_⟩
    have e := listText_len_le (PyData.shownAll xs)
    omega
  | .tuple xs, h => by
    obtain ⟨h1, h2⟩ := fitAll_ok hM (xs := xs) (by simpa only [fit] using h)
    simp only [PyData.showable, PyData.shown, wt]
    refine ⟨h1, ?_⟩
    have e := tupleText_len_le (PyData.shownAll xs)
    omega
  | .dict kvs, h => by simp only [fit] at h; simp only [wt]; exact ⟨h.2, h.1⟩
theorem fitAll_ok {M : Nat} (hM : M < 10 ^ 35) : ∀ {xs : List PyData}, fitAll M xs → PyData.showableAll xs = true ∧ ((PyData.shownAll xs).map (·.length)).sum + 2 * (PyData.shownAll xs).length ≤ wtAll xs
  | [], _ => by simp [PyData.showableAll, PyData.shownAll, wtAll]
  | x :: xs, h => by
    have h' : fit M x ∧ fitAll M xs := by simpa only [fitAll] using h
    obtain ⟨a1, a2⟩ := fit_ok hM h'.1
    obtain ⟨b1, b2⟩ := fitAll_ok hM h'.2
    refine ⟨by simp [PyData.showableAll, a1, b1], ?_⟩
    simp only [PyData.shownAll, List.map_cons, List.sum_cons, List.length_cons, wtAll]
    omega
end
mutual
theorem fit_mono {M M' : Nat} (h : M ≤ M') : ∀ {d : PyData}, fit M d → fit M' d
  | .none, _ => by simp [fit]
  | .bool _, _ => by simp [fit]
  | .int i, q => by simp only [fit] at *; omega
  | .str x, q => by simpa only [fit] using q
  | .list xs, q => by simp only [fit] at *; exact fitAll_mono h q
  | .tuple xs, q => by simp only [fit] at *; exact fitAll_mono h q
  | .dict _, q => by simpa only [fit] using q
theorem fitAll_mono {M M' : Nat} (h : M ≤ M') : ∀ {xs : List PyData}, fitAll M xs → fitAll M' xs
  | [], _ => by simp [fitAll]
  | x :: xs, q => by
    have q' : fit M x ∧ fitAll M xs := by simpa only [fitAll] using q
    simp only [fitAll]
    exact ⟨fit_mono h q'.1, fitAll_mono h q'.2⟩
end
theorem fitAll_iff {M : Nat} : ∀ {xs : List PyData}, fitAll M xs ↔ ∀ x ∈ xs, fit M x
  | [] => by simp [fitAll]
  | x :: xs => by simp [fitAll, fitAll_iff (xs := xs)]
theorem wtAll_app : ∀ (xs ys : List PyData), wtAll (xs ++ ys) = wtAll xs + wtAll ys
  | [], ys => by simp [wtAll]
  | x :: xs, ys => by simp only [List.cons_append, wtAll, wtAll_app xs ys]; omega
theorem wtAll_rev : ∀ xs : List PyData, wtAll xs.reverse = wtAll xs
  | [] => rfl
  | x :: xs => by rw [List.reverse_cons, wtAll_app, wtAll_rev xs]; simp only [wtAll]; omega
theorem wtAll_split (xs : List PyData) (n : Nat) : wtAll xs = wtAll (xs.take n) + wtAll (xs.drop n) := by rw [← wtAll_app, List.take_append_drop]
theorem wtAll_len : ∀ xs : List PyData, 2 * xs.length ≤ wtAll xs
  | [] => by simp [wtAll]
  | x :: xs => by have := wtAll_len xs; simp only [wtAll, List.length_cons]; omega
theorem depthAll_le {k : Nat} : ∀ {xs : List PyData}, PyData.depthAll xs ≤ k ↔ ∀ x ∈ xs, x.depth ≤ k
  | [] => by simp [PyData.depthAll]
  | x :: xs => by
    have := depthAll_le (k := k) (xs := xs)
    simp only [PyData.depthAll, List.mem_cons, forall_eq_or_imp, ← this]
    omega
structure Fit (M k W : Nat) (d : PyData) : Prop where
  ok : fit M d
  dp : d.depth ≤ k
  wt : wt d ≤ W
theorem Fit.mono {M M' k k' W W' : Nat} {d : PyData} (h : Fit M k W d) (h1 : M ≤ M') (h2 : k ≤ k') (h3 : W ≤ W') : Fit M' k' W' d := ⟨fit_mono h1 h.ok, Nat.le_trans h.dp h2, Nat.le_trans h.wt h3⟩
theorem Fit.at {M k W : Nat} {ds : List PyData} {d : PyData} (h : Fit M k W (.tuple ds)) (hm : d ∈ ds) : Fit M (k - 1) W d ∧ d.depth + 1 ≤ (PyData.tuple ds).depth ∧ 1 ≤ k := by
  have h1 : fitAll M ds := by have := h.ok; simpa only [fit] using this
  have h2 := h.dp
  simp only [PyData.depth] at h2
  have h3 : ∀ x ∈ ds, x.depth ≤ PyData.depthAll ds := depthAll_le.mp (Nat.le_refl _)
  have h4 := h3 d hm
  refine ⟨⟨fitAll_iff.mp h1 d hm, by omega, ?_⟩, by simp only [PyData.depth]; omega, by omega⟩
  obtain ⟨a, b, rfl⟩ := List.append_of_mem hm
  have h5 := h.wt
  simp only [Pv.wt, wtAll_app, wtAll] at h5
  omega
/-- a tuple made of parts -/
theorem Fit.tup {M k W : Nat} {ds : List PyData} (h1 : ∀ d ∈ ds, fit M d ∧ d.depth + 1 ≤ k) (h0 : 1 ≤ k) (h2 : wtAll ds + 3 ≤ W) : Fit M k W (.tuple ds) := by
  refine ⟨by simp only [fit]; exact fitAll_iff.mpr fun d hd => (h1 d hd).1, ?_, by simpa only [Pv.wt] using h2⟩
  simp only [PyData.depth]
  have : PyData.depthAll ds ≤ k - 1 := depthAll_le.mpr fun d hd => by have := (h1 d hd).2; omega
  omega
theorem Fit.lst {M k W : Nat} {ds : List PyData} (h1 : ∀ d ∈ ds, fit M d ∧ d.depth + 1 ≤ k) (h0 : 1 ≤ k) (h2 : wtAll ds + 3 ≤ W) : Fit M k W (.list ds) := by
  refine ⟨by simp only [fit]; exact fitAll_iff.mpr fun d hd => (h1 d hd).1, ?_, by simpa only [Pv.wt] using h2⟩
  simp only [PyData.depth]
  have : PyData.depthAll ds ≤ k - 1 := depthAll_le.mpr fun d hd => by have := (h1 d hd).2; omega
  omega
theorem Fit.parts {M k W : Nat} {ds : List PyData} (h : Fit M k W (.tuple ds)) : (∀ d ∈ ds, fit M d ∧ d.depth + 1 ≤ k) ∧ 1 ≤ k ∧ wtAll ds + 3 ≤ W := by
  have h0 : 1 ≤ k := by have := h.dp; simp only [PyData.depth] at this; omega
  refine ⟨fun d hd => ⟨(h.at hd).1.ok, ?_⟩, h0, by have := h.wt; simpa only [Pv.wt] using this⟩
  have := (h.at hd).1.dp
  omega
theorem Fit.int {M k W : Nat} {i : Int} (h : i.natAbs ≤ M) (hW : 40 ≤ W) : Fit M k W (.int i) := ⟨by simpa only [fit] using h, by simp [PyData.depth], by simpa only [Pv.wt] using hW⟩
/-- what is shown together -/
theorem fit_pair {M : Nat} (hM : M < 10 ^ 35) {k W : Nat} {a b : PyData} (ha : Fit M k W a) (hb : Fit M k W b) (hk : k ≤ 50) (hW : W ≤ 1000000) :
    (PyData.list [a, b]).showable = true ∧ (PyData.list [a, b]).depth ≤ 60 ∧ (PyData.list [a, b]).shown.length ≤ sizeLine := by
  have h : Fit M (k + 1) (2 * W + 10) (.list [a, b]) := by
    refine Fit.lst ?_ (by omega) ?_
    · intro d hd
      rcases List.mem_cons.mp hd with rfl | hd
      · exact ⟨ha.ok, by have := ha.dp; omega⟩
      · rcases List.mem_cons.mp hd with rfl | hd
        · exact ⟨hb.ok, by have := hb.dp; omega⟩
        · cases hd
    · have h1 := ha.wt
      have h2 := hb.wt
      simp only [wtAll]; omega
  obtain ⟨s1, s2⟩ := fit_ok hM h.ok
  refine ⟨s1, Nat.le_trans h.dp (by omega), Nat.le_trans s2 (Nat.le_trans h.wt ?_)⟩
  rw [sizeLine_eq]; omega
/-! the data of instances and assignments -/
theorem fit_dI {M : Nat} {ns : List Int} (h : ∀ i ∈ ns, i.natAbs ≤ M) : Fit M 1 (ns.length * 42 + 3) (dI ns) := by
  have hw : wtAll (ns.map PyData.int) = ns.length * 42 := by
    clear h
    induction ns with
    | nil => rfl
    | cons a ns ih => simp only [List.map_cons, wtAll, wt, ih, List.length_cons]; omega
  refine Fit.tup ?_ (by decide) (by rw [hw]; exact Nat.le_refl _)
  intro d hd
  obtain ⟨i, hi, rfl⟩ := List.mem_map.mp hd
  exact ⟨by simpa only [fit] using h i hi, by simp [PyData.depth]⟩
theorem wtAll_le {W : Nat} : ∀ {ds : List PyData}, (∀ d ∈ ds, wt d ≤ W) → wtAll ds ≤ ds.length * (W + 2)
  | [], _ => by simp [wtAll]
  | d :: ds, h => by
    have h1 := h d (by simp)
    have h2 := wtAll_le (W := W) (ds := ds) (fun x hx => h x (by simp [hx]))
    simp only [wtAll, List.length_cons, Nat.succ_mul]; omega
theorem fit_dAsg {M : Nat} {rows : List (List Int)} (h : ∀ row ∈ rows, row.length ≤ 10 ∧ ∀ i ∈ row, i.natAbs ≤ M) (hr : rows.length ≤ 20) : Fit M 2 10000 (dAsg rows) := by
  unfold dAsg
  refine Fit.tup ?_ (by decide) ?_
  · intro d hd
    obtain ⟨row, hrow, rfl⟩ := List.mem_map.mp hd
    have := fit_dI (M := M) (h row hrow).2
    exact ⟨this.ok, by have := this.dp; omega⟩
  · have := wtAll_le (W := 430) (ds := rows.map dI) (by
      intro d hd
      obtain ⟨row, hrow, rfl⟩ := List.mem_map.mp hd
      have := (fit_dI (M := M) (h row hrow).2).wt
      have := (h row hrow).1
      omega)
    rw [List.length_map] at this
    omega
theorem fit_dInst {M : Nat} {cs : List Int} {gs : List Gp} (hc : cs.length ≤ 10 ∧ ∀ i ∈ cs, i.natAbs ≤ M) (hg : gs.length ≤ 20) (h : ∀ g ∈ gs, g.1.length ≤ 10 ∧ (∀ i ∈ g.1, i.natAbs ≤ M) ∧ g.2.natAbs ≤ M) : Fit M 5 20000 (dInst cs gs) := by
  have f1 := fit_dI hc.2
  have f2 : ∀ g ∈ gs, Fit M 2 600 (dGrp g) := by
    intro g hgm
    have f3 := fit_dI (M := M) (h g hgm).2.1
    have hl := (h g hgm).1
    unfold dGrp
    refine Fit.tup ?_ (by decide) ?_
    · intro d hd
      rcases List.mem_cons.mp hd with rfl | hd
      · exact ⟨f3.ok, by have := f3.dp; omega⟩
      · rcases List.mem_cons.mp hd with rfl | hd
        · exact ⟨by simpa only [fit] using (h g hgm).2.2, by simp [PyData.depth]⟩
        · cases hd
    · have := f3.wt
      simp only [wtAll, Pv.wt]; omega
  have f4 : Fit M 3 13000 (.tuple (gs.map dGrp)) := by
    refine Fit.tup ?_ (by decide) ?_
    · intro d hd
      obtain ⟨g, hgm, rfl⟩ := List.mem_map.mp hd
      exact ⟨(f2 g hgm).ok, by have := (f2 g hgm).dp; omega⟩
    · have := wtAll_le (W := 600) (ds := gs.map dGrp) (by
        intro d hd
        obtain ⟨g, hgm, rfl⟩ := List.mem_map.mp hd
        exact (f2 g hgm).wt)
      rw [List.length_map] at this
      omega
  unfold dInst
  refine Fit.tup ?_ (by decide) ?_
  · intro d hd
    rcases List.mem_cons.mp hd with rfl | hd
    · exact ⟨f1.ok, by have := f1.dp; omega⟩
    · rcases List.mem_cons.mp hd with rfl | hd
      · exact ⟨f4.ok, by have := f4.dp; omega⟩
      · cases hd
  · have h1 := f1.wt
    have h2 := f4.wt
    have := hc.1
    simp only [wtAll]; omega
end Pv

namespace Pv
open PySem PySem.Spec PyProof.Rows L2
theorem seq_with {t u : TS} {D : Ends} {σ : L2.St} {H : Hp} (Pre : L2.St → Hp → Prop) (rest : ∀ σ1 H1, Pre σ1 H1 → u D σ1 H1) (main : (∀ σ1 H1, Pre σ1 H1 → u D σ1 H1) → tSeq t u D σ H) : tSeq t u D σ H := main rest
theorem perm_erase : ∀ (l : List Int) (k : Nat) (h : k < l.length), (l[k] :: l.eraseIdx k).Perm l
  | [], _, h => by simp at h
  | a :: l, 0, _ => by simp
  | a :: l, k + 1, h => by
    have ih := perm_erase l k (by simpa using h)
    simp only [List.getElem_cons_succ, List.eraseIdx_cons_succ]
    exact (List.Perm.swap _ _ _).trans (List.Perm.cons _ ih)
theorem nodup_step {ms l : List Int} {k : Nat} (h : k < l.length) (hn : (ms ++ l).Nodup) : ((ms ++ [l[k]]) ++ l.eraseIdx k).Nodup := by
  rw [List.append_assoc]
  exact (List.Perm.append_left ms (perm_erase l k h)).symm.nodup hn
theorem upTo_nodup (n : Nat) : (upTo n).Nodup := by
  unfold upTo
  show List.Pairwise _ _
  rw [List.pairwise_map]
  exact List.Pairwise.imp (fun h hab => h (Int.ofNat.inj hab)) (List.nodup_range (n := n))
def wholeD (d : PyData) : Bool := isInt d && !isBool d
def withinD (a b : Int) : PyData → Bool
  | .int i => decide (a ≤ i ∧ i ≤ b)
  | _ => false
def tupOfD (a b : Int) : PyData → Bool
  | .tuple ds => decide (a ≤ (ds.length : Int) ∧ (ds.length : Int) ≤ b)
  | _ => false
def intsAll : List PyData → Option (List Int)
  | [] => some []
  | .int i :: r => (intsAll r).map (i :: ·)
  | _ :: _ => none
def intsOf : PyData → Option (List Int)
  | .tuple ds => intsAll ds
  | _ => none
theorem intsAll_ints : ∀ row : List Int, intsAll (row.map PyData.int) = some row
  | [] => rfl
  | i :: r => by simp [intsAll, intsAll_ints r]
theorem intsAll_eq : ∀ {ds : List PyData} {row : List Int}, intsAll ds = some row → ds = row.map PyData.int
  | [], row, h => by simp [intsAll] at h; subst h; rfl
  | d :: ds, row, h => by
    cases d <;> simp [intsAll] at h
    obtain ⟨r, h1, rfl⟩ := h
    rw [intsAll_eq h1]; rfl
theorem within_ints : ∀ {ds : List PyData} {a b : Int}, ds.all (withinD a b) = true → ∃ row : List Int, ds = row.map PyData.int ∧ row.all (fun x => decide (a ≤ x ∧ x ≤ b)) = true
  | [], _, _, _ => ⟨[], rfl, rfl⟩
  | d :: ds, a, b, h => by
    rw [List.all_cons, Bool.and_eq_true] at h
    obtain ⟨row, e, h2⟩ := within_ints h.2
    cases d with
    | int i => exact ⟨i :: row, by rw [e]; rfl, by rw [List.all_cons, Bool.and_eq_true]; exact ⟨h.1, h2⟩⟩
    | _ => simp [withinD] at h
def optV (ps : List Int) (k : Nat) : V := match ps[k]? with | some p => .int p | none => .non
def dAdd (ls : List Int) (g : Gp) : List Int := match g.1 with | [] => ls | p :: _ => addAt ls p g.2
def demOf (n : Nat) (gs : List Gp) : List Int := gs.foldl dAdd (zeros n)
theorem dAdd_len (ls : List Int) (g : Gp) : (dAdd ls g).length = ls.length := by
  unfold dAdd; split
  · rfl
  · exact addAt_len ..
theorem demOf_len (n : Nat) (gs : List Gp) : (demOf n gs).length = n := by
  unfold demOf
  suffices h : ∀ ls : List Int, (gs.foldl dAdd ls).length = ls.length by rw [h]; simp [zeros]
  intro ls
  induction gs generalizing ls with
  | nil => rfl
  | cons g gs ih => rw [List.foldl_cons, ih, dAdd_len]
theorem demOf_snoc {n : Nat} {gs : List Gp} {i : Nat} {g : Gp} (h : gs[i]? = some g) : demOf n (gs.take (i + 1)) = dAdd (demOf n (gs.take i)) g := by
  unfold demOf
  rw [take_snoc h, List.foldl_append]; rfl
def mx (j : Int) : Int := if j > 0 then j else 0
def excOf (cs ds : List Int) : List Int := (cs.zip ds).map fun q => mx (q.2 - q.1)
def freOf (cs ds : List Int) : List Int := (cs.zip ds).map fun q => mx (q.1 - q.2)
def sel (f : Int → Bool) (ls : List Int) (n : Nat) : List Int := ((List.range n).filter fun i => f (ls.getD i 0)).map fun (i : Nat) => (i : Int)
theorem sel_succ (f : Int → Bool) (ls : List Int) {n : Nat} {x : Int} (h : ls[n]? = some x) : sel f ls (n + 1) = sel f ls n ++ (if f x then [(n : Int)] else []) := by
  unfold sel
  rw [List.range_succ, List.filter_append, List.map_append]
  have e : ls.getD n 0 = x := by rw [List.getD_eq_getElem?_getD, h]; rfl
  simp only [List.filter_cons, List.filter_nil, e]
  cases f x <;> rfl
theorem sel_len (f : Int → Bool) (ls : List Int) (n : Nat) : (sel f ls n).length ≤ n := by
  unfold sel
  rw [List.length_map]
  exact Nat.le_trans (List.length_filter_le ..) (by simp)
def isFree (ps cl : List Int) (k : Nat) : Bool := !(cl.contains (ps.getD k 0))
def resOf (ps cl : List Int) : Nat := ((List.range' 1 (ps.length - 1)).find? (isFree ps cl)).getD ps.length
theorem inV_ints (x : Int) : ∀ cl : List Int, inV (.int x) (cl.map V.int) = cl.contains x
  | [] => rfl
  | c :: cl => by
    show ((c == x) || inV (.int x) (cl.map V.int)) = _
    rw [inV_ints x cl, List.contains_cons]
    congr 1
    exact Bool.beq_comm
theorem flat_ints (cl : List Int) : (cl.map V.int).all flatV = true := by
  induction cl with
  | nil => rfl
  | cons c cl ih => simpa [flatV] using ih
def rDem (cs : List Int) (gs : List Gp) : List Int := demOf cs.length gs
def rExc (cs : List Int) (gs : List Gp) : List Int := excOf cs (rDem cs gs)
def rFre (cs : List Int) (gs : List Gp) : List Int := freOf cs (rDem cs gs)
def rCla (cs : List Int) (gs : List Gp) : List Int := sel (fun x => decide (x = 0)) (rFre cs gs) cs.length
def rCro (cs : List Int) (gs : List Gp) : List Int := sel (fun x => decide (0 < x)) (rExc cs gs) cs.length
theorem rDem_len (cs : List Int) (gs : List Gp) : (rDem cs gs).length = cs.length := demOf_len ..
theorem rExc_len (cs : List Int) (gs : List Gp) : (rExc cs gs).length = cs.length := by simp [rExc, excOf, rDem_len]
theorem rFre_len (cs : List Int) (gs : List Gp) : (rFre cs gs).length = cs.length := by simp [rFre, freOf, rDem_len]
def oV : Option Int → V
  | some x => .int x
  | none => .non
theorem optV_oV (ps : List Int) (k : Nat) : optV ps k = oV ps[k]? := by unfold optV; cases ps[k]? <;> rfl
def routeOf (cs : List Int) (gs : List Gp) (g : Gp) : Option (Int × Option Int) := match g.1 with
  | [] => none
  | p :: _ => if (rCro cs gs).contains p = true then some (p, g.1[resOf g.1 (rCla cs gs)]?) else none
def RtV (K : PySem.W.Frag) (H : Hp) (v : V) : Option (Int × Option Int) → Prop
  | none => v = .non
  | some r => ∃ T, v = .ref T ∧ SqT K H T [.int r.1, oV r.2]
def RtAll (K : PySem.W.Frag) (H : Hp) (vs : List V) (rs : List (Option (Int × Option Int))) : Prop := vs.length = rs.length ∧ ∀ (j : Nat) (v : V) (r : Option (Int × Option Int)), vs[j]? = some v → rs[j]? = some r → RtV K H v r
theorem RtV.tk {K : PySem.W.Frag} {H H' : Hp} {v : V} {r : Option (Int × Option Int)} (h : RtV K H v r) (s : TupK H H') : RtV K H' v r := by
  cases r with
  | none => exact h
  | some r => obtain ⟨T, e, h⟩ := h; exact ⟨T, e, s.sq h⟩
theorem RtAll.tk {K : PySem.W.Frag} {H H' : Hp} {vs : List V} {rs : List (Option (Int × Option Int))} (h : RtAll K H vs rs) (s : TupK H H') : RtAll K H' vs rs := ⟨h.1, fun j v r h1 h2 => (h.2 j v r h1 h2).tk s⟩
theorem RtAll.snoc {K : PySem.W.Frag} {H : Hp} {vs : List V} {rs : List (Option (Int × Option Int))} {v : V} {r : Option (Int × Option Int)} (h : RtAll K H vs rs) (hv : RtV K H v r) : RtAll K H (vs ++ [v]) (rs ++ [r]) := by
  refine ⟨by simp [h.1], fun j v' r' h1 h2 => ?_⟩
  by_cases hj : j < vs.length
  · rw [List.getElem?_append_left hj] at h1
    rw [List.getElem?_append_left (by rw [← h.1]; exact hj)] at h2
    exact h.2 j v' r' h1 h2
  · rw [List.getElem?_append_right (by omega)] at h1
    rw [List.getElem?_append_right (by rw [← h.1]; omega)] at h2
    have e : j - vs.length = 0 := by have := (List.getElem?_eq_some_iff.mp h1).1; simp at this; omega
    rw [e] at h1
    rw [← h.1, e] at h2
    simp at h1 h2
    rw [← h1, ← h2]; exact hv
theorem inV_opt (ps cl : List Int) : inV (optV ps 0) (cl.map V.int) = match ps with | [] => false | p :: _ => cl.contains p := by
  cases ps with
  | nil =>
    show inV .non (cl.map V.int) = false
    induction cl with
    | nil => rfl
    | cons c cl ih =>
      have e : eqV (V.int c) V.non = false := rfl
      simp only [List.map_cons, inV] at ih ⊢
      simp [e] at ih ⊢
      exact ih
  | cons p ps => exact inV_ints p cl
theorem resOf_le (ps cl : List Int) : resOf ps cl ≤ ps.length := by
  unfold resOf
  cases e : (List.range' 1 (ps.length - 1)).find? (isFree ps cl) with
  | none => simp
  | some x =>
    have := List.mem_of_find?_eq_some e
    rw [List.mem_range'_1] at this
    simp; omega
theorem iteFF {c : Bool} {A B : Prop} (hc : c = false) (h : B) : if c = true then A else B := by rw [if_neg (by rw [hc]; decide)]; exact h
theorem iteTT {c : Bool} {A B : Prop} (hc : c = true) (h : A) : if c = true then A else B := by rw [if_pos hc]; exact h
theorem eqv_intsL (as bs : List Int) : PyData.eqv (.list (as.map PyData.int)) (.list (bs.map PyData.int)) = decide (as = bs) := by
  have key : ∀ (as bs : List Int), PyData.eqvAll (as.map PyData.int) (bs.map PyData.int) = decide (as = bs) := by
    intro as
    induction as with
    | nil => intro bs; cases bs <;> simp [PyData.eqvAll]
    | cons a as ih =>
      intro bs
      cases bs with
      | nil => simp [PyData.eqvAll]
      | cons b bs =>
        simp only [List.map_cons, PyData.eqvAll, PyData.eqv, ih, List.cons.injEq]
        by_cases h1 : a = b <;> by_cases h2 : as = bs <;> simp [h1, h2]
  rw [PyData.eqv]; exact key as bs
def mvStep (st : List Int × List Int) (z : Option (Int × Option Int) × Int) : List Int × List Int := match z.1 with
  | none => st
  | some r => (addAt st.1 r.1 z.2, match r.2 with | some y => addAt st.2 y z.2 | none => st.2)
def mvOf (n : Nat) (zs : List (Option (Int × Option Int) × Int)) : List Int × List Int := zs.foldl mvStep (zeros n, zeros n)
theorem mvOf_snoc (n : Nat) (zs : List (Option (Int × Option Int) × Int)) (z : Option (Int × Option Int) × Int) : mvOf n (zs ++ [z]) = mvStep (mvOf n zs) z := by simp [mvOf, List.foldl_append]
theorem mvOf_len (n : Nat) (zs : List (Option (Int × Option Int) × Int)) : (mvOf n zs).1.length = n ∧ (mvOf n zs).2.length = n := by
  have : ∀ (zs : List (Option (Int × Option Int) × Int)) (s : List Int × List Int), s.1.length = n → s.2.length = n → (zs.foldl mvStep s).1.length = n ∧ (zs.foldl mvStep s).2.length = n := by
    intro zs
    induction zs with
    | nil => intro s h1 h2; exact ⟨h1, h2⟩
    | cons z zs ih =>
      intro s h1 h2
      refine ih _ ?_ ?_
      · unfold mvStep; split
        · exact h1
        · simp only [addAt_len]; exact h1
      · unfold mvStep; split
        · exact h2
        · simp only; split
          · rw [addAt_len]; exact h2
          · exact h2
  exact this zs _ (by simp [zeros]) (by simp [zeros])
def zsOf (cs : List Int) (gs : List Gp) (xs : List Int) : List (Option (Int × Option Int) × Int) := (gs.map (routeOf cs gs)).zip xs
def goodZ (z : Option (Int × Option Int) × Int) : Bool := z.1.isSome || decide (z.2 = 0)
def meetsD (cs : List Int) (gs : List Gp) (xs : List Int) : Bool := (zsOf cs gs xs).all goodZ && decide ((mvOf cs.length (zsOf cs gs xs)).1 = rExc cs gs) && ((mvOf cs.length (zsOf cs gs xs)).2.zip (rFre cs gs)).all (fun z => decide (z.1 ≤ z.2))
theorem route_in {cs : List Int} {gs : List Gp} (ok : InsOk cs gs) {g : Gp} (hg : g ∈ gs) {r : Int × Option Int} (h : routeOf cs gs g = some r) : (0 ≤ r.1 ∧ r.1 < (cs.length : Int)) ∧ ∀ y, r.2 = some y → 0 ≤ y ∧ y < (cs.length : Int) := by
  have hp := (ok.gp g hg).2.1
  unfold routeOf at h
  cases e : g.1 with
  | nil => rw [e] at h; cases h
  | cons p ps =>
    rw [e] at h
    simp only at h
    split at h
    · cases h
      refine ⟨hp p (by rw [e]; simp), fun y hy => hp y ?_⟩
      rw [e]
      exact List.mem_of_getElem? hy
    · cases h
def intAt : PyData → Int
  | .int i => i
  | _ => 0
def tupIt : PyData → List PyData
  | .tuple ds => ds
  | _ => []
def isVecD (cs : List Int) (gs : List Gp) (d : PyData) : Bool := tupOfD (gs.length : Nat) (gs.length : Nat) d && ((gs.zip (tupIt d)).all (fun z => withinD 0 z.1.2 z.2) && meetsD cs gs ((tupIt d).map intAt))
theorem ints_vals {K : PySem.W.Frag} {st r : Addr} {H : Hp} : ∀ {ds : List PyData} {zs : List V}, (∀ d ∈ ds, ∃ x, d = PyData.int x) → DqAll K st r H zs ds → zs = (ds.map intAt).map V.int
  | [], _, _, h => by cases h; rfl
  | d :: ds, _, hi, h => by
    cases h with
    | cons h1 h2 =>
      obtain ⟨x, rfl⟩ := hi d (by simp)
      cases h1
      rw [ints_vals (fun d hd => hi d (by simp [hd])) h2]
      rfl
theorem sel_has (f : Int → Bool) (ls : List Int) {n k : Nat} (hk : k < n) : (sel f ls n).contains (k : Int) = f (ls.getD k 0) := by
  rw [Bool.eq_iff_iff, List.contains_iff_mem]
  simp only [sel, List.mem_map, List.mem_filter, List.mem_range]
  constructor
  · rintro ⟨a, ⟨h, e⟩, h2⟩
    have : a = k := by omega
    subst this; exact e
  · exact fun h => ⟨k, ⟨hk, h⟩, rfl⟩
theorem fre_at {cs ds : List Int} {p : Nat} (h1 : p < cs.length) (h2 : p < ds.length) : (freOf cs ds).getD p 0 = mx (cs[p] - ds[p]) := by
  unfold freOf
  rw [List.getD_eq_getElem?_getD, List.getElem?_map, (List.getElem?_zip_eq_some.mpr ⟨List.getElem?_eq_getElem h1, List.getElem?_eq_getElem h2⟩ : (cs.zip ds)[p]? = some (cs[p], ds[p]))]
  rfl
theorem exc_at {cs ds : List Int} {p : Nat} (h1 : p < cs.length) (h2 : p < ds.length) : (excOf cs ds).getD p 0 = mx (ds[p] - cs[p]) := by
  unfold excOf
  rw [List.getD_eq_getElem?_getD, List.getElem?_map, (List.getElem?_zip_eq_some.mpr ⟨List.getElem?_eq_getElem h1, List.getElem?_eq_getElem h2⟩ : (cs.zip ds)[p]? = some (cs[p], ds[p]))]
  rfl
theorem cla_has {cs : List Int} {gs : List Gp} {p : Nat} (h : p < cs.length) : (rCla cs gs).contains (p : Int) = decide (cs[p] ≤ (rDem cs gs)[p]'(by rw [rDem_len]; exact h)) := by
  unfold rCla
  rw [sel_has _ _ h]
  unfold rFre
  rw [fre_at h (by rw [rDem_len]; exact h)]
  unfold mx
  rw [decide_eq_decide]
  split <;> omega
theorem cro_has {cs : List Int} {gs : List Gp} {p : Nat} (h : p < cs.length) : (rCro cs gs).contains (p : Int) = decide (cs[p] < (rDem cs gs)[p]'(by rw [rDem_len]; exact h)) := by
  unfold rCro
  rw [sel_has _ _ h]
  unfold rExc
  rw [exc_at h (by rw [rDem_len]; exact h)]
  unfold mx
  rw [decide_eq_decide]
  split <;> omega
theorem zip_turn {α β γ : Type} (f : α × β → γ) : ∀ (as : List α) (bs : List β), (as.zip bs).map f = (bs.zip as).map fun z => f (z.2, z.1)
  | [], bs => by simp
  | a :: as, [] => by simp
  | a :: as, b :: bs => by simp [zip_turn f as bs]
theorem exc_zip (ds cs : List Int) : (ds.zip cs).map (fun z => V.int (mx (z.1 - z.2))) = (excOf cs ds).map V.int := by
  rw [zip_turn]; unfold excOf; rw [List.map_map]; rfl
theorem fre_zip (ds cs : List Int) : (ds.zip cs).map (fun z => V.int (mx (z.2 - z.1))) = (freOf cs ds).map V.int := by
  rw [zip_turn]; unfold freOf; rw [List.map_map]; rfl
theorem res_head {ps cl : List Int} {F : Nat → Option V} (hl : 1 ≤ ps.length) (hF : ∀ k, 1 ≤ k → k < ps.length → F k = if isFree ps cl k = true then some (.int (k : Nat)) else none) (hL : F ps.length = some (.int (ps.length : Nat))) :
    ((List.range' 1 ps.length).filterMap F)[0]? = some (.int (resOf ps cl : Nat)) := by
  obtain ⟨m, hm⟩ : ∃ m, ps.length = m + 1 := ⟨ps.length - 1, by omega⟩
  have e : List.range' 1 ps.length = List.range' 1 m ++ [ps.length] := by rw [hm, List.range'_1_concat, Nat.add_comm 1 m]
  have key : ∀ l : List Nat, (∀ k ∈ l, 1 ≤ k ∧ k < ps.length) → (l.filterMap F ++ [V.int (ps.length : Nat)])[0]? = some (.int (((l.find? (isFree ps cl)).getD ps.length : Nat) : Int)) := by
    intro l
    induction l with
    | nil => intro _; rfl
    | cons k l ih =>
      intro h
      have hk := h k (by simp)
      have := hF k hk.1 hk.2
      by_cases hf : isFree ps cl k = true
      · rw [if_pos hf] at this
        rw [List.filterMap_cons_some this, List.find?_cons_of_pos hf]; rfl
      · rw [if_neg hf] at this
        rw [List.filterMap_cons_none this, List.find?_cons_of_neg hf]
        exact ih fun k hk => h k (by simp [hk])
  rw [e, List.filterMap_append, show List.filterMap F [ps.length] = [V.int (ps.length : Nat)] by simp [hL], key _ (fun k hk => by rw [List.mem_range'_1] at hk; omega)]
  unfold resOf
  rw [hm, Nat.add_sub_cancel]
abbrev Rw := Nat × Int × Option Int × Int
def rowAt (cs : List Int) (gs : List Gp) (j : Nat) (g : Gp) : Option Rw := (routeOf cs gs g).map fun r => (j, r.1, r.2, g.2)
def rowsTo (cs : List Int) (gs : List Gp) (n : Nat) : List Rw := (List.range n).filterMap fun j => gs[j]?.bind (rowAt cs gs j)
theorem rowsTo_succ {cs : List Int} {gs : List Gp} {j : Nat} {g : Gp} (h : gs[j]? = some g) : rowsTo cs gs (j + 1) = rowsTo cs gs j ++ (rowAt cs gs j g).toList := by
  unfold rowsTo
  rw [List.range_succ, List.filterMap_append]
  congr 1
  simp only [List.filterMap_cons, List.filterMap_nil, h, Option.bind_some]
  cases rowAt cs gs j g <;> rfl
theorem rowsTo_len (cs : List Int) (gs : List Gp) (n : Nat) : (rowsTo cs gs n).length ≤ n := by
  unfold rowsTo
  exact Nat.le_trans (List.length_filterMap_le _ _) (by simp)
def RwV (K : PySem.W.Frag) (H : Hp) (v : V) (r : Rw) : Prop := ∃ T, v = .ref T ∧ SqT K H T [.int (r.1 : Nat), .int r.2.1, oV r.2.2.1, .int r.2.2.2]
theorem RwV.tk {K : PySem.W.Frag} {H H' : Hp} {v : V} {r : Rw} (h : RwV K H v r) (s : TupK H H') : RwV K H' v r := by
  obtain ⟨T, e, h⟩ := h; exact ⟨T, e, s.sq h⟩
theorem RwV.same {K : PySem.W.Frag} {H H' : Hp} {v : V} {r : Rw} (h : RwV K H v r) (s : Same H H') : RwV K H' v r := h.tk (.of s)
def subL (a b : List Int) : List Int := List.zipWith (fun x y => x - y) a b
theorem subL_len {a b : List Int} (h : a.length = b.length) : (subL a b).length = a.length := by simp [subL, h]
theorem sub_add {a b : List Int} {p : Nat} {x : Int} (hab : a.length = b.length) (hp : p < (subL a b).length) : subL a (addAt b (p : Int) x) = (subL a b).set p ((subL a b)[p] - x) := by
  have hpb : p < b.length := by rw [subL_len hab] at hp; omega
  unfold addAt
  rw [Int.toNat_natCast]
  apply List.ext_getElem
  · simp [subL, hab]
  · intro n h1 h2
    simp only [subL, List.getElem_zipWith, List.getElem_set]
    by_cases h : p = n
    · subst h; simp [hpb]; omega
    · simp [h]
theorem sub_zero (a : List Int) : subL a (zeros a.length) = a := by
  induction a with
  | nil => rfl
  | cons x a ih => simp [subL, zeros, List.replicate_succ] at ih ⊢; exact ih
theorem sub_eq : ∀ {a b : List Int}, a.length = b.length → ((subL a b).filter (fun x => !decide (x = 0))).isEmpty = decide (b = a)
  | [], [], _ => by simp [subL]
  | [], _ :: _, h => by simp at h
  | _ :: _, [], h => by simp at h
  | x :: a, y :: b, h => by
    have ih := sub_eq (a := a) (b := b) (by simpa using h)
    unfold subL at ih ⊢
    rw [List.zipWith_cons_cons]
    by_cases e : x - y = 0
    · have e2 : y = x := by omega
      rw [List.filter_cons_of_neg (by simp [e]), ih]
      simp [e2]
    · have e2 : ¬ y = x := by omega
      rw [List.filter_cons_of_pos (by simp [e])]
      simp [e2]
theorem sub_le : ∀ {a b : List Int}, a.length = b.length → ((subL a b).filter (fun x => decide (x < 0))).isEmpty = (b.zip a).all (fun z => decide (z.1 ≤ z.2))
  | [], [], _ => by simp [subL]
  | [], _ :: _, h => by simp at h
  | _ :: _, [], h => by simp at h
  | x :: a, y :: b, h => by
    have ih := sub_le (a := a) (b := b) (by simpa using h)
    unfold subL at ih ⊢
    rw [List.zipWith_cons_cons]
    by_cases e : x - y < 0
    · have e2 : ¬ y ≤ x := by omega
      rw [List.filter_cons_of_pos (by simp [e])]
      simp [e2]
    · have e2 : y ≤ x := by omega
      rw [List.filter_cons_of_neg (by simp [e]), ih]
      simp [e2]
def stepR (xs : List Int) (st : List Int × List Int) (r : Rw) : List Int × List Int := mvStep st (some (r.2.1, r.2.2.1), xs.getD r.1 0)
def mvR (n : Nat) (xs : List Int) (rows : List Rw) : List Int × List Int := rows.foldl (stepR xs) (zeros n, zeros n)
theorem mvR_snoc (n : Nat) (xs : List Int) (rows : List Rw) (r : Rw) : mvR n xs (rows ++ [r]) = stepR xs (mvR n xs rows) r := by simp [mvR, List.foldl_append]
theorem mvR_len (n : Nat) (xs : List Int) (rows : List Rw) : (mvR n xs rows).1.length = n ∧ (mvR n xs rows).2.length = n := by
  have : ∀ (rows : List Rw) (s : List Int × List Int), s.1.length = n → s.2.length = n → (rows.foldl (stepR xs) s).1.length = n ∧ (rows.foldl (stepR xs) s).2.length = n := by
    intro rows
    induction rows with
    | nil => intro s h1 h2; exact ⟨h1, h2⟩
    | cons z zs ih =>
      intro s h1 h2
      refine ih _ ?_ ?_
      · simp only [stepR, mvStep, addAt_len]; exact h1
      · simp only [stepR, mvStep]; split
        · rw [addAt_len]; exact h2
        · exact h2
  exact this rows _ (by simp [zeros]) (by simp [zeros])
theorem zs_at {cs : List Int} {gs : List Gp} {xs : List Int} (hl : xs.length = gs.length) {j : Nat} (hj : j < gs.length) : (zsOf cs gs xs)[j]? = some (routeOf cs gs gs[j], xs[j]) := by
  unfold zsOf
  rw [List.getElem?_zip_eq_some]
  exact ⟨by rw [List.getElem?_map, List.getElem?_eq_getElem hj]; rfl, List.getElem?_eq_getElem (by omega)⟩
theorem mvR_all {cs : List Int} {gs : List Gp} {xs : List Int} (hl : xs.length = gs.length) : mvR cs.length xs (rowsTo cs gs gs.length) = mvOf cs.length (zsOf cs gs xs) := by
  have key : ∀ n, n ≤ gs.length → mvR cs.length xs (rowsTo cs gs n) = mvOf cs.length ((zsOf cs gs xs).take n) := by
    intro n
    induction n with
    | zero => intro _; rfl
    | succ n ih =>
      intro h
      have hg : gs[n]? = some gs[n] := List.getElem?_eq_getElem (by omega)
      rw [rowsTo_succ hg, take_snoc (zs_at hl (by omega)), mvOf_snoc, ← ih (by omega)]
      unfold rowAt
      cases hr : routeOf cs gs gs[n] with
      | none => simp [mvStep]
      | some r =>
        show mvR cs.length xs (rowsTo cs gs n ++ [(n, r.1, r.2, gs[n].2)]) = _
        rw [mvR_snoc]
        unfold stepR
        simp only
        rw [List.getD_eq_getElem?_getD, List.getElem?_eq_getElem (show n < xs.length by omega)]
        rfl
  have := key gs.length (Nat.le_refl _)
  rw [List.take_of_length_le (by unfold zsOf; rw [List.length_zip, List.length_map]; omega)] at this
  exact this
theorem row_mem {cs : List Int} {gs : List Gp} {n : Nat} {r : Rw} (h : r ∈ rowsTo cs gs n) : ∃ g, gs[r.1]? = some g ∧ routeOf cs gs g = some (r.2.1, r.2.2.1) ∧ r.1 < n := by
  unfold rowsTo at h
  rw [List.mem_filterMap] at h
  obtain ⟨j, hj, e⟩ := h
  rw [Option.bind_eq_some_iff] at e
  obtain ⟨g, hg, e⟩ := e
  unfold rowAt at e
  obtain ⟨q, hq, e⟩ := Option.map_eq_some_iff.mp e
  subst e
  exact ⟨g, hg, hq, List.mem_range.mp hj⟩
theorem rows_has {cs : List Int} {gs : List Gp} {n k : Nat} (hk : k < n) (hkg : k < gs.length) : ((rowsTo cs gs n).map (fun r => (r.1 : Int))).contains (k : Int) = (routeOf cs gs gs[k]).isSome := by
  rw [Bool.eq_iff_iff, List.contains_iff_mem]
  constructor
  · intro h
    obtain ⟨r, hr, e⟩ := List.mem_map.mp h
    obtain ⟨g, hg, hq, _⟩ := row_mem hr
    have e : r.1 = k := by have e : (r.1 : Int) = k := e; omega
    rw [e, List.getElem?_eq_getElem hkg] at hg
    cases hg
    rw [hq]; rfl
  · intro h
    obtain ⟨q, hq⟩ := Option.isSome_iff_exists.mp h
    refine List.mem_map.mpr ⟨(k, q.1, q.2, gs[k].2), ?_, rfl⟩
    unfold rowsTo
    rw [List.mem_filterMap]
    refine ⟨k, List.mem_range.mpr hk, ?_⟩
    rw [List.getElem?_eq_getElem hkg]
    unfold rowAt
    show Option.map _ (routeOf cs gs gs[k]) = _
    rw [hq]; rfl
def othOf (cs : List Int) (gs : List Gp) (n : Nat) : List Nat := (List.range n).filter (fun k => !((rowsTo cs gs gs.length).map (fun r => (r.1 : Int))).contains (k : Int))
theorem oth_good {cs : List Int} {gs : List Gp} {xs : List Int} (hl : xs.length = gs.length) : (((othOf cs gs xs.length).map (fun (k : Nat) => (k : Int))).filter (fun k => !decide (xs.getD k.toNat 0 = 0))).isEmpty = (zsOf cs gs xs).all goodZ := by
  rw [Bool.eq_iff_iff, List.isEmpty_iff, List.filter_eq_nil_iff, List.all_eq_true]
  constructor
  · intro h z hz
    obtain ⟨k, hk, e⟩ := List.mem_iff_getElem.mp hz
    have hkg : k < gs.length := by have := hk; unfold zsOf at this; rw [List.length_zip, List.length_map] at this; omega
    have e2 := zs_at (cs := cs) hl hkg
    rw [List.getElem?_eq_getElem hk, e] at e2
    cases e2
    unfold goodZ
    cases hr : routeOf cs gs gs[k] with
    | some r => rfl
    | none =>
      have := h (k : Int) (List.mem_map.mpr ⟨k, ?_, rfl⟩)
      · rw [Int.toNat_natCast, List.getD_eq_getElem?_getD, List.getElem?_eq_getElem (show k < xs.length by omega)] at this
        simpa using this
      · unfold othOf
        rw [List.mem_filter]
        refine ⟨List.mem_range.mpr (by omega), ?_⟩
        rw [rows_has hkg hkg, hr]; rfl
  · intro h k hk0
    obtain ⟨k, hk, rfl⟩ := List.mem_map.mp hk0
    unfold othOf at hk
    rw [List.mem_filter, List.mem_range] at hk
    have hkg : k < gs.length := by omega
    rw [rows_has hkg hkg] at hk
    have := h _ (List.mem_of_getElem? (zs_at (cs := cs) hl hkg))
    unfold goodZ at this
    rw [Int.toNat_natCast, List.getD_eq_getElem?_getD, List.getElem?_eq_getElem (show k < xs.length by omega)]
    cases hr : routeOf cs gs gs[k] with
    | some r => rw [hr] at hk; simp at hk
    | none => rw [hr] at this; simpa using this
theorem meets_by {cs : List Int} {gs : List Gp} {xs : List Int} (hl : xs.length = gs.length) : meetsD cs gs xs =
    ((((othOf cs gs xs.length).map (fun (k : Nat) => (k : Int))).filter (fun k => !decide (xs.getD k.toNat 0 = 0))).isEmpty && ((subL (rExc cs gs) (mvR cs.length xs (rowsTo cs gs gs.length)).1).filter (fun x => !decide (x = 0))).isEmpty && ((subL (rFre cs gs) (mvR cs.length xs (rowsTo cs gs gs.length)).2).filter (fun x => decide (x < 0))).isEmpty) := by
  have hm := mvOf_len cs.length (zsOf cs gs xs)
  rw [mvR_all hl, oth_good hl, sub_eq (by rw [rExc_len, hm.1]), sub_le (by rw [rFre_len, hm.2])]
  rfl
theorem oth_mem {cs : List Int} {gs : List Gp} {n : Nat} {k : Int} (h : k ∈ (othOf cs gs n).map (fun (k : Nat) => (k : Int))) : ∃ m : Nat, k = m ∧ m < n := by
  obtain ⟨m, hm, rfl⟩ := List.mem_map.mp h
  unfold othOf at hm
  rw [List.mem_filter, List.mem_range] at hm
  exact ⟨m, rfl, hm.1⟩
theorem Rl.app {β : Type} {R : V → β → Prop} {vs ws : List V} {rs ss : List β} (h : Rl R vs rs) (h' : Rl R ws ss) : Rl R (vs ++ ws) (rs ++ ss) := by
  refine ⟨by simp [h.1, h'.1], fun j v r h1 h2 => ?_⟩
  by_cases hj : j < vs.length
  · rw [List.getElem?_append_left hj] at h1
    rw [List.getElem?_append_left (by rw [← h.1]; exact hj)] at h2
    exact h.2 j v r h1 h2
  · rw [List.getElem?_append_right (by omega)] at h1
    rw [List.getElem?_append_right (by rw [← h.1]; omega), ← h.1] at h2
    exact h'.2 _ v r h1 h2
def TuV (K : PySem.W.Frag) (H : Hp) (v : V) (xs : List Int) : Prop := ∃ T, v = .ref T ∧ SqT K H T (xs.map V.int)
theorem TuV.tk {K : PySem.W.Frag} {H H' : Hp} {v : V} {xs : List Int} (h : TuV K H v xs) (s : TupK H H') : TuV K H' v xs := by
  obtain ⟨T, e, h⟩ := h; exact ⟨T, e, s.sq h⟩
theorem ext_dom {H H1 : Hp} {st g : Addr} {t t' : Nat} (d0 : DV H st g t) (x : Ext st g H H1) (d1 : DV H1 st g t') {a : Addr} (h : dom H a) : dom H1 a := by
  by_cases h1 : a = st
  · rw [h1]; exact d1.occ.1
  by_cases h2 : a = g
  · rw [h2]; exact d1.occ.2
  unfold dom at *
  cases e : H a with
  | none => exact absurd e h
  | some o => rw [x _ _ e h1 h2]; simp
theorem ext_new {H H1 : Hp} {st g : Addr} {t t' : Nat} (d0 : DV H st g t) (x : Ext st g H H1) (d1 : DV H1 st g t') {a : Addr} (n : H1 a = none) (h : dom H a) : False := ext_dom d0 x d1 h n
theorem IT.cutN {K : PySem.W.Frag} {H : Hp} {a : Addr} {L M : Nat} {Q : VK} {σ : L2.St} (h : IT K H a L M) (lo : Option Int) (q : ∀ (H' : Hp) (b : Addr), Same H H' → IT K H' b L M → Q (.ref b) H') : tNoPart σ H (fun u H3 => rSlA K (.ref a) lo u H3 Q) := IT.cut h lo none q
def MM : Nat := 10 ^ 12
theorem wt_ints (ns : List Int) : wtAll (ns.map PyData.int) = ns.length * 42 := by
  induction ns with
  | nil => rfl
  | cons a ns ih => simp only [List.map_cons, wtAll, wt, ih, List.length_cons]; omega
def VF (K : PySem.W.Frag) (X : Addr → Prop) (H : Hp) (v : V) : Prop := ∃ d, Dw K X H v d ∧ Fit (10 ^ 29) 4 5000 d
theorem VF.l {K : PySem.W.Frag} {X : Addr → Prop} {H H' : Hp} {v : V} (h : VF K X H v) (l : LX X H H') : VF K X H' v := by
  obtain ⟨d, h1, h2⟩ := h; exact ⟨d, h1.lx l, h2⟩
theorem IT.vf {K : PySem.W.Frag} {X : Addr → Prop} {H : Hp} {p : Addr} {L M : Nat} (h : IT K H p L M) (hL : L ≤ 100) (hM : M ≤ 10 ^ 29) : VF K X H (.ref p) := by
  obtain ⟨xs, h1, h2, h3⟩ := h
  exact ⟨dI xs, .of_dp (to_ints xs) (dI_sq h1), (fit_dI h3).mono hM (by decide) (by omega)⟩
def ITn (K : PySem.W.Frag) (H : Hp) (p : Addr) : Prop := ∃ xs : List Int, SqT K H p (xs.map V.int) ∧ 1 ≤ xs.length ∧ xs.length ≤ 10 ∧ ∀ x ∈ xs, x.natAbs ≤ 10 ^ 12
theorem ITn.tk {K : PySem.W.Frag} {H H' : Hp} {p : Addr} (h : ITn K H p) (s : TupK H H') : ITn K H' p := by obtain ⟨xs, h1, h2⟩ := h; exact ⟨xs, s.sq h1, h2⟩
theorem ITn.vf {K : PySem.W.Frag} {X : Addr → Prop} {H : Hp} {p : Addr} (h : ITn K H p) : VF K X H (.ref p) := by
  obtain ⟨xs, h1, h2, h3, h4⟩ := h
  exact IT.vf (L := 10) (M := 10 ^ 12) ⟨xs, h1, h3, h4⟩ (by decide) (by decide)
def X2 (st g : Addr) (a : Addr) : Prop := a = st ∨ a = g
theorem x2_dom {H : Hp} {st g a : Addr} {t : Nat} (d : DV H st g t) (h : X2 st g a) : dom H a := by
  rcases h with h | h
  · rw [h]; exact d.occ.1
  · rw [h]; exact d.occ.2
def Xd3 (st g D : Addr) (a : Addr) : Prop := a = st ∨ a = g ∨ a = D
end Pv

namespace Pv
open PySem PySem.Spec PyProof.Rows L2
/-! a third drawing state: a list of the cells, the turn and the rests -/
structure DU (H : Hp) (st c r : Addr) (t : Nat) : Prop where
  hs : H st = some (.lst [.ref c, .int t, .ref r])
  ex : ∃ cells rests : List Int, H c = some (.lst (cells.map V.int)) ∧ H r = some (.lst (rests.map V.int)) ∧ cells.length = rests.length ∧ 0 < cells.length ∧ cells.length ≤ 100 ∧ ∀ x ∈ rests, 0 ≤ x
  n1 : c ≠ r
  n2 : st ≠ c
  n3 : st ≠ r
section
variable {H H1 H2 : Hp} {st c r p : Addr} {t : Nat} {o : HO}
theorem DU.tup (d : DU H st c r t) (e : Ext st r H H1) : TupK H H1 := by
  obtain ⟨cells, rests, hc, hr, _⟩ := d.ex
  intro b xs
  refine ⟨fun h => ?_, fun u h => ?_⟩
  · exact e _ _ h (ne_of h d.hs (by intro z; cases z)) (ne_of h hr (by intro z; cases z))
  · exact e _ _ h (ne_of h d.hs (by intro z; cases z)) (ne_of h hr (by intro z; cases z))
theorem DU.same (d : DU H st c r t) (s : Same H H1) : DU H1 st c r t := by
  obtain ⟨cells, rests, hc, hr, q⟩ := d.ex
  exact ⟨s _ _ d.hs, ⟨cells, rests, s _ _ hc, s _ _ hr, q⟩, d.n1, d.n2, d.n3⟩
theorem DU.new (d : DU H st c r t) (np : H p = none) : DU (upd H p o) st c r t := d.same (sameNew np)
theorem DU.put (d : DU H st c r t) (h : p ≠ st ∧ p ≠ c ∧ p ≠ r) : DU (upd H p o) st c r t := by
  obtain ⟨cells, rests, hc, hr, q⟩ := d.ex
  obtain ⟨h1, h2, h3⟩ := h
  exact ⟨by rw [upd_ne h1.symm]; exact d.hs, ⟨cells, rests, by rw [upd_ne h2.symm]; exact hc, by rw [upd_ne h3.symm]; exact hr, q⟩, d.n1, d.n2, d.n3⟩
theorem DU.off (d : DU H st c r t) (np : H p = none) : p ≠ st ∧ p ≠ c ∧ p ≠ r := by
  obtain ⟨cells, rests, hc, hr, q⟩ := d.ex
  exact ⟨(ne_of_none d.hs np).symm, (ne_of_none hc np).symm, (ne_of_none hr np).symm⟩
theorem DU.lasts (d : DU H st c r t) (x : Ext st r H H1) : Lasts st r H H1 := by
  obtain ⟨cells, rests, hc, hr, q⟩ := d.ex
  refine ⟨d.tup x, fun a xs e n1 n2 => x _ _ e n1 n2, fun a kvs e => ?_⟩
  exact x _ _ e (ne_of e d.hs (by intro z; cases z)) (ne_of e hr (by intro z; cases z))
theorem DU.nil (d : DU H1 st c r t) (x : Ext st r H H1) (np : H1 p = none) : H p = none := by
  obtain ⟨o1, o2, o3⟩ := d.off np
  cases e : H p with
  | none => rfl
  | some o => have := x _ _ e o1 o3; rw [np] at this; cases this
theorem DU.occ (d : DU H st c r t) : H st ≠ none ∧ H r ≠ none := by
  obtain ⟨cells, rests, hc, hr, _⟩ := d.ex
  exact ⟨by rw [d.hs]; simp, by rw [hr]; simp⟩
end
end Pv

namespace Pv
open PySem PySem.Spec PyProof.Rows L2
def topS (i : Nat) : Stmt := PySem.Challenge.pw_postvote_k38_values_and_bounds.main.body.getD i (.Pass ⟨0, 0, 0, 0⟩)
abbrev sSt : Stmt := topS 27
theorem scSt : FnScope ["_law_script", "_law_cells", "_law_cell"] ["_law_script"] (defScope sSt) := ⟨rfl, rfl, rfl, by decide +kernel, rfl, by decide +kernel, by decide +kernel⟩
abbrev sDr : Stmt := topS 28
theorem scDr : FnScope ["_law_deck_here", "_law_many", "_law_cells", "_law_count", "_law_rests", "_law_seat", "_law_digits", "_law_mixed_here"] ["_law_deck_here", "_law_many"] (defScope sDr) := ⟨rfl, rfl, rfl, by decide +kernel, rfl, by decide +kernel, by decide +kernel⟩
theorem b01 (b : Bool) : -(2 ^ 64) < (if b = true then (1 : Int) else 0) ∧ (if b = true then (1 : Int) else 0) < 2 ^ 64 := by cases b <;> decide
section
variable {P : Program} {w : World} {K : PySem.W.Frag} {mg : Str → Option Value} {base : Heap}
def spStart (K : PySem.W.Frag) : Sp := fun vs H Q _ => ∃ (a : Addr) (ns : List Int), vs = [.ref a] ∧ SqL K H a (ns.map V.int) ∧ ns.length ≤ 63 ∧
  ∀ H' st c r, Same H H' → DU H' st c r 0 → Q (.ref st) H'
set_option maxHeartbeats 4000000 in
theorem ok_St {f : Addr} {fd : FuncData} (F : Fun K "_law_deck" "_law_deck" sSt f fd)
    (m_list : mg "list" = none) (m_len : mg "len" = none) (m_int : mg "int" = none) :
    FnOk P w K mg base CX0 1 f fd ["_law_script"] (spStart K) := by
  refine F.ok scSt (fun vs H Q E h => ?_) (fun cdv A outer s H vs Q E hr h => ?_)
  · obtain ⟨a, ns, rfl, _⟩ := h; rfl
  · obtain ⟨a, ns, rfl, hS, hn, q⟩ := h
    refine ⟨_, pss_cons (ps_set (i := 1) scSt.nd rfl (.inl rfl) (pe_op op_cat (pe_callTy call_list_of (by rfl) m_list (by decide +kernel) (pa_cons (pe_slice sl_list (pv 0) po_none (po_some (pe_int))) pa_nil)) (pe_op op_rep (pe_lst (pa_cons (pe_int) pa_nil)) (pe_callTy call_int1 (by rfl) m_int (by decide +kernel) (pa_cons (pe_cmpR op_eq (pe_callB call_lenQ (by rfl) m_len PySem.boot_len (pa_cons (pv 0) pa_nil)) (pe_int) (nomark _)) pa_nil)))))
      (pss_one (ps_ret (pe_lst (pa_cons (pv 1) (pa_cons (pe_int) (pa_cons (pe_lc (own := [("_law_cell", 2)]) (g := gName 2) (tt := tYes) (te := tOp (rI CMul fun i j => .int (i * j)) (tVar 2) (tCB (fun xs H Q => (∃ i, xs = [.int i] ∧ Q (.int i) H) ∨ ∃ k, xs = [.bl k] ∧ Q (.int (if k then 1 else 0)) H) (tCons (tOp (rI0 fun i j => .bl (decide (j ≤ i))) (tVar 2) (tOp (rI CPow fun i j => .int (i ^ j.toNat)) (tC (.int 10)) (tC (.int 18)))) tNil))) rfl scSt.nd (pi_list (pv 1)) (blkOk_by (N := ["_law_script", "_law_cells", "_law_cell"]) (sc := defScope sSt) (by decide +kernel)) (fun _ _ _ _ _ => pg_name (i := 2) scSt.nd rfl (.inl rfl)) (fun _ _ _ _ _ => pts_nil) (fun _ _ _ _ _ => pe_op op_mul (pv 2) (pe_callTy call_int1 (by rfl) m_int (by decide +kernel) (pa_cons (pe_cmpR op_ge (pv 2) (pe_op op_pow (pe_int) (pe_int)) (nomark _)) pa_nil)))) pa_nil)))))), ?_⟩
    have hcut : cutV (ns.map V.int) none (some 60) = (ns.take 60).map V.int := by rw [List.map_take]; exact cut_to _ 60
    obtain ⟨n6, hn6⟩ : ∃ n6, ns.take 60 = n6 := ⟨_, rfl⟩
    have hn : n6.length ≤ 60 := by rw [← hn6, List.length_take]; omega
    rw [hn6] at hcut
    refine ⟨.ref a, rfl, 60, rfl, a, _, rfl, hS, fun p np => ⟨p, _, rfl, .inl (SqL.of upd_same), fun D nD => ?_⟩⟩
    rw [hcut]
    have s1 := (sameNew (o := .lst (n6.map V.int)) np).trans (sameNew (o := .lst (n6.map V.int)) (by rw [hcut] at nD; exact nD))
    have eD : (upd (upd H p (.lst (n6.map V.int))) D (.lst (n6.map V.int))) D = some (.lst (n6.map V.int)) := upd_same
    generalize upd (upd H p (.lst (n6.map V.int))) D (.lst (n6.map V.int)) = H2 at s1 eD ⊢
    refine ⟨by decide, fun p1 n1 => ⟨.ref a, rfl, a, _, rfl, .inl ((s1.trans (sameNew n1)).seq hS), rfl, .inr ⟨_, rfl, p1, _, _, rfl, rfl, upd_same, by split <;> decide, by split <;> decide, by split <;> decide, fun p2 n2 => ?_⟩⟩⟩
    generalize hb : decide (V.int ((List.map V.int ns).length : Int) = V.int 0) = b at n2 ⊢
    have e2' := upNew n2 (o := .lst (List.replicate (if b = true then (1 : Int) else 0).toNat [V.int 9]).flatten) (upNew n1 (o := .lst [.int 9]) eD)
    have hl0 : n6.length = 0 ↔ b = true := by
      rw [← hb, decide_eq_true_eq, List.length_map, ← hn6, List.length_take]
      constructor
      · intro h; rw [show ns.length = 0 by omega]; rfl
      · intro h; have := V.int.inj h; omega
    have hrep : (List.replicate (if b = true then (1 : Int) else 0).toNat [V.int 9]).flatten = ((if b = true then [9] else []) : List Int).map V.int := by cases b <;> rfl
    refine ⟨D, p2, _, _, rfl, rfl, e2', upd_same, ?_, fun C nC => ?_⟩
    · rw [hrep, List.length_map, List.length_map]; have : (if b = true then [9] else [] : List Int).length ≤ 1 := by split <;> simp
      have h5 := small (n := 100) (by omega); omega
    rw [hrep, ← List.map_append] at *
    generalize hcl : n6 ++ (if b = true then [9] else []) = cells
    have hcl0 : 0 < cells.length ∧ cells.length ≤ 64 := by
      rw [← hcl, List.length_append]
      by_cases hb1 : b = true
      · rw [if_pos hb1]; simp; omega
      · rw [if_neg hb1]
        have : n6.length ≠ 0 := fun z => hb1 (hl0.mp z)
        simp; omega
    generalize hHC : upd (upd (upd H2 p1 (.lst [.int 9])) p2 (.lst (((if b = true then [9] else []) : List Int).map V.int))) C (.lst (cells.map V.int)) = HC
    have eC : HC C = some (.lst (cells.map V.int)) := by rw [← hHC]; exact upd_same
    have s0C : Same H HC := by rw [← hHC]; exact ((s1.trans (sameNew n1)).trans (sameNew n2)).trans (sameNew nC)
    refine ⟨.ref C, rfl, .ref C, rfl, C, rfl, ⟨_, SqL.of eC⟩, fun R nR => lc_it (walk_list (K := K) (a := C) (xs := cells.map V.int))
      (LcP HC R cells (fun z => some (.int (z * (if decide ((10 : Int) ^ (18 : Int).toNat ≤ z) = true then 1 else 0))))) (.start nR) (fun j H3 _ h => SqL.of (h.1 _ _ eC)) ?_ ?_⟩
    · rintro j x H3 H4 hj hL ⟨rfl, hx⟩
      have hx : (cells.map V.int)[j]? = some x := hx
      rw [List.length_map] at hj
      rw [atS hj] at hx
      cases hx
      refine ⟨rfl, .int cells[j], rfl, .int cells[j], rfl, _, _, rfl, rfl, ⟨by decide, by decide, by decide⟩, _, _, rfl, rfl, .inr ⟨_, rfl, _, _, rfl, rfl, .inr ⟨(b01 _).1, (b01 _).2⟩, ?_⟩⟩
      exact hL.yes nR (Same.refl _) (List.getElem?_eq_getElem hj) rfl (by omega)
    · rintro H3 hL
      have e3 := hL.done (by rw [List.length_map]; exact Nat.le_refl _)
      rw [fm_map] at e3
      have em : cells.map (fun z => V.int (z * (if decide ((10 : Int) ^ (18 : Int).toNat ≤ z) = true then 1 else 0))) = (cells.map (fun z => z * (if decide ((10 : Int) ^ (18 : Int).toNat ≤ z) = true then 1 else 0))).map V.int := by rw [List.map_map]; rfl
      rw [em] at e3
      refine ⟨(show (3 : Nat) ≤ sizeLine by decide), fun st nst => q _ st C R ((s0C.trans hL.1).trans (sameNew nst)) ⟨upd_same, ⟨cells, _, upNew nst (hL.1 _ _ eC), upNew nst e3, by rw [List.length_map], hcl0.1, by omega, ?_⟩, ne_of_none eC nR, ?_, ?_⟩⟩
      · intro x hx
        obtain ⟨c, hc, rfl⟩ := List.mem_map.mp hx
        split
        · rename_i h; have := of_decide_eq_true h; have h10 : (0 : Int) ≤ 10 ^ (18 : Int).toNat := by decide
          omega
        · omega
      · exact (ne_of_none (hL.1 _ _ eC) nst).symm
      · exact (ne_of_none e3 nst).symm
def spDraw : Sp := fun vs H Q _ => ∃ (st c r : Addr) (t : Nat) (m : Int), vs = [.ref st, .int m] ∧ DU H st c r t ∧ t < 900000 ∧ 0 < m ∧ m ≤ 2 ^ 60 ∧
  ∀ (H' : Hp) (d : Int), 0 ≤ d → d < m → DU H' st c r (t + 1) → Ext st r H H' → Q (.int d) H'
set_option maxHeartbeats 4000000 in
theorem ok_Dr {f : Addr} {fd : FuncData} (F : Fun K "_law_draw" "_law_draw" sDr f fd)
    (m_len : mg "len" = none) :
    FnOk P w K mg base CX0 1 f fd ["_law_deck_here", "_law_many"] spDraw := by
  refine F.ok scDr (fun vs H Q E h => ?_) (fun cdv A outer s H vs Q E hr h => ?_)
  · obtain ⟨st, c, r, t, m, rfl, _⟩ := h; rfl
  · obtain ⟨st, c, r, t, m, rfl, hd, ht, hm, hm2, q⟩ := h
    refine ⟨_, pss_cons (ps_asg (pv 0) (pg_unl rfl (pgs_cons (pg_name (i := 2) scDr.nd rfl (.inl rfl)) (pgs_cons (pg_name (i := 3) scDr.nd rfl (.inl rfl)) (pgs_cons (pg_name (i := 4) scDr.nd rfl (.inl rfl)) pgs_nil)))))
      (pss_cons (ps_set (i := 5) scDr.nd rfl (.inl rfl) (pe_op op_mod (pv 3) (pe_callB call_lenQ (by rfl) m_len PySem.boot_len (pa_cons (pv 2) pa_nil))))
      (pss_cons (ps_asg (pe_op op_add (pv 3) (pe_int)) (pg_sub (pv 0) (pe_int) set_list))
      (pss_cons (ps_if (pt_cmpR op_gt (pe_ix ix_list (pv 4) (pv 5) (fun _ _ => rfl)) (pe_int) (nomark _))
        (pss_cons (ps_set (i := 6) scDr.nd rfl (.inl rfl) (pe_ix ix_list (pv 4) (pv 5) (fun _ _ => rfl)))
        (pss_cons (ps_asg (pe_op op_fdivW (pv 6) (pv 1)) (pg_sub (pv 4) (pv 5) set_list))
        (pss_one (ps_ret (pe_op op_mod (pv 6) (pv 1)))))) pss_nil)
      (pss_cons (ps_set (i := 7) scDr.nd rfl (.inl rfl) (pe_op op_add (pe_op op_add (pe_op op_add (pe_op op_mod (pe_ix ix_list (pv 2) (pv 5) (fun _ _ => rfl)) (pe_int)) (pe_op op_mul (pe_op op_mul (pe_int) (pv 3)) (pv 3))) (pe_op op_mul (pe_int) (pv 3))) (pe_int)))
      (pss_cons (ps_set (i := 7) scDr.nd rfl (.inl rfl) (pe_op op_mod (pe_op op_pow (pv 7) (pe_int)) (pe_int)))
      (pss_cons (ps_set (i := 7) scDr.nd rfl (.inl rfl) (pe_op op_mod (pe_op op_pow (pe_op op_add (pv 7) (pe_op op_mul (pe_int) (pv 3))) (pe_int)) (pe_int)))
      (pss_one (ps_ret (pe_op op_mod (pe_op op_fdiv (pv 7) (pe_int)) (pv 1)))))))))), ?_⟩
    obtain ⟨cells, rests, hc, hrr, hl, hl0, hl1, hnn⟩ := hd.ex
    refine ⟨.ref st, rfl, st, _, rfl, SqL.of hd.hs, rfl, _, _, rfl, _, _, rfl, _, _, rfl, rfl, ?_⟩
    refine ⟨.int t, rfl, .ref c, rfl, c, _, rfl, .inl (SqL.of hc), _, _, rfl, rfl, by rw [List.length_map]; omega, ?_⟩
    have hn : (List.map V.int cells).length = cells.length := List.length_map ..
    have hsp : ((t : Int) % (((List.map V.int cells).length : Nat) : Int)) = ((t % cells.length : Nat) : Int) := by rw [hn]; norm_cast
    have hlt : t % cells.length < cells.length := Nat.mod_lt _ hl0
    generalize hj : t % cells.length = j at hsp hlt
    obtain ⟨x, hx⟩ : ∃ x, rests[j]? = some x := ⟨rests[j], List.getElem?_eq_getElem (by omega)⟩
    obtain ⟨y, hy⟩ : ∃ y, cells[j]? = some y := ⟨cells[j], List.getElem?_eq_getElem (by omega)⟩
    have hx0 : 0 ≤ x := hnn x (List.mem_of_getElem? hx)
    have hxv : (rests.map V.int)[j]? = some (.int x) := by rw [List.getElem?_map, hx]; rfl
    have hyv : (cells.map V.int)[j]? = some (.int y) := by rw [List.getElem?_map, hy]; rfl
    dsimp only
    rw [hsp]
    refine ⟨.int t, rfl, _, _, rfl, rfl, .ref st, rfl, st, _, 1, 1, rfl, rfl, hd.hs, rfl, ?_⟩
    have e0 : (upd H st (.lst [.ref c, .int ((t : Int) + 1), .ref r])) st = some (.lst [.ref c, .int ((t : Int) + 1), .ref r]) := upd_same
    have e1 : (upd H st (.lst [.ref c, .int ((t : Int) + 1), .ref r])) r = some (.lst (rests.map V.int)) := by rw [upd_ne hd.n3.symm]; exact hrr
    have e2 : (upd H st (.lst [.ref c, .int ((t : Int) + 1), .ref r])) c = some (.lst (cells.map V.int)) := by rw [upd_ne hd.n2.symm]; exact hc
    have ex0 : Ext st r H (upd H st (.lst [.ref c, .int ((t : Int) + 1), .ref r])) := fun b o h n1 _ => by rw [upd_ne n1]; exact h
    have d0 : DU (upd H st (.lst [.ref c, .int ((t : Int) + 1), .ref r])) st c r (t + 1) := ⟨upd_same, ⟨cells, rests, e2, e1, hl, hl0, hl1, hnn⟩, hd.n1, hd.n2, hd.n3⟩
    refine ⟨.ref r, rfl, .int j, rfl, r, _, _, .int x, rfl, rfl, SqL.of e1, atI_nat hxv, _, _, rfl, rfl, _, rfl, ite2 (fun hgt => ?_) (fun hle => ?_)⟩
    · refine ⟨.ref r, rfl, .int j, rfl, r, _, _, .int x, rfl, rfl, SqL.of e1, atI_nat hxv, ?_⟩
      refine ⟨.int x, rfl, .int m, rfl, _, _, rfl, rfl, wide_div (b := 61) hm (by omega) (by decide) (by decide), .ref r, rfl, .int j, rfl, r, _, _, j, rfl, rfl, e1, ixN_nat (by rw [List.length_map]; omega), ?_⟩
      refine ⟨.int x, rfl, .int m, rfl, _, _, rfl, rfl, hm, q _ _ (Int.emod_nonneg _ (by omega)) (Int.emod_lt_of_pos _ hm) ?_ ?_⟩
      · refine ⟨by rw [upd_ne hd.n3]; exact upd_same, ⟨cells, rests.set j (x / m), by rw [upd_ne hd.n1]; exact e2, by rw [upd_same, List.map_set], by rw [List.length_set]; exact hl, hl0, hl1, ?_⟩, hd.n1, hd.n2, hd.n3⟩
        intro z hz
        rcases List.mem_or_eq_of_mem_set hz with h | h
        · exact hnn z h
        · rw [h]; exact Int.ediv_nonneg hx0 (by omega)
      · exact fun b o h n1 n2 => by rw [upd_ne n2]; exact ex0 b o h n1 n2
    · have hy1 : 0 ≤ y % 2147483587 := Int.emod_nonneg _ (by decide)
      have hy2 : y % 2147483587 < 2147483587 := Int.emod_lt_of_pos _ (by decide)
      have hsq : 0 ≤ 31337 * (t : Int) * (t : Int) ∧ 31337 * (t : Int) * (t : Int) ≤ 31337 * 1000000 * 1000000 := by
        have h1 : 0 ≤ 31337 * (t : Int) := by omega
        have h2 : 31337 * (t : Int) ≤ 31337 * 1000000 := by omega
        exact ⟨Int.mul_nonneg h1 (by omega), Int.mul_le_mul h2 (by omega) (by omega) (by omega)⟩
      refine ⟨.ref c, rfl, .int j, rfl, c, _, _, .int y, rfl, rfl, SqL.of e2, atI_nat hyv, _, _, rfl, rfl, (by show (0 : Int) < 2147483587; decide), .int t, rfl, _, _, rfl, rfl, .inl ⟨by decide, by decide⟩, .int t, rfl, _, _, rfl, rfl, .inl (by omega), _, _, rfl, rfl, .int t, rfl, _, _, rfl, rfl, .inl ⟨by decide, by decide⟩, _, _, rfl, rfl, _, _, rfl, rfl, ?_⟩
      dsimp only
      generalize hu : y % 2147483587 + 31337 * (t : Int) * (t : Int) + 6737 * (t : Int) + 83 = u
      have hu1 : 0 ≤ u ∧ u < 2 ^ 60 := by omega
      refine ⟨.int u, rfl, _, _, rfl, rfl, ⟨by decide, by decide, by omega⟩, _, _, rfl, rfl, (by show (0 : Int) < 2305843009213693921; decide), ?_⟩
      dsimp only
      generalize hz : u ^ (3 : Int).toNat % 2305843009213693921 = z
      have hz1 : 0 ≤ z := by rw [← hz]; exact Int.emod_nonneg _ (by decide)
      have hz2 : z < 2305843009213693921 := by rw [← hz]; exact Int.emod_lt_of_pos _ (by decide)
      refine ⟨.int z, rfl, .int t, rfl, _, _, rfl, rfl, .inl ⟨by decide, by decide⟩, _, _, rfl, rfl, _, _, rfl, rfl, ⟨by decide, by decide, by omega⟩, _, _, rfl, rfl, (by show (0 : Int) < 2305843009213693951; decide), ?_⟩
      refine ⟨_, rfl, _, _, rfl, rfl, ⟨by decide, by decide⟩, .int m, rfl, _, _, rfl, rfl, hm, ?_⟩
      exact q _ _ (Int.emod_nonneg _ (by omega)) (Int.emod_lt_of_pos _ hm) d0 ex0
end
end Pv

namespace Pv
open PySem PySem.Spec PyProof.Rows L2
abbrev sMx : Stmt := topS 31
theorem scMx : FnScope ["_law_deck_here", "_law_items", "_law_pool", "_law_found"] ["_law_deck_here", "_law_items"] (defScope sMx) := ⟨rfl, rfl, rfl, by decide +kernel, rfl, by decide +kernel, by decide +kernel⟩
abbrev sAm : Stmt := topS 33
theorem scAm : FnScope ["_law_deck_here", "_law_most", "_law_few"] ["_law_deck_here", "_law_most"] (defScope sAm) := ⟨rfl, rfl, rfl, by decide +kernel, rfl, by decide +kernel, by decide +kernel⟩
abbrev sLi : Stmt := topS 34
theorem scLi : FnScope ["_law_deck_here", "_law_posts", "_law_firsts", "_law_reserves", "_law_order", "_law_between"] ["_law_deck_here", "_law_posts"] (defScope sLi) := ⟨rfl, rfl, rfl, by decide +kernel, rfl, by decide +kernel, by decide +kernel⟩
theorem lay_ints : ∀ ns : List Int, PyData.canLayAll0 (ns.map PyData.int) = true
  | [] => by simp [PyData.canLayAll0]
  | n :: ns => by simp [PyData.canLayAll0, PyData.canLay0, lay_ints ns]
theorem dep_ints : ∀ ns : List Int, PyData.depthAll (ns.map PyData.int) = 0
  | [] => by simp [PyData.depthAll]
  | n :: ns => by simp [PyData.depthAll, PyData.depth, dep_ints ns]
theorem shaped_ints (ns : List Int) : SeqAt.shaped (.list (ns.map PyData.int)) = true := by
  show (PyData.canLay0 (.list (ns.map PyData.int)) && decide (PyData.depth (.list (ns.map PyData.int)) ≤ 64)) = true
  rw [Bool.and_eq_true]
  refine ⟨by simp only [PyData.canLay0]; exact lay_ints ns, decide_eq_true ?_⟩
  simp only [PyData.depth, dep_ints]; omega
theorem eqv_empty (ds : List PyData) : PyData.eqv (.list ds) (.list []) = ds.isEmpty := by
  cases ds <;> simp [PyData.eqv, PyData.eqvAll]
def rng (a b : Nat) : List Int := (List.range (b - a)).map fun (i : Nat) => (a : Int) + (i : Int)
theorem rgV_rng (a b : Nat) : rgV (a : Int) (b : Int) = (rng a b).map V.int := by
  unfold rgV rng
  rw [List.map_map, show ((b : Int) - (a : Int)).toNat = b - a by omega]
  rfl
theorem rng_len (a b : Nat) : (rng a b).length = b - a := by simp [rng]
theorem rng_mem {a b : Nat} {x : Int} (h : x ∈ rng a b) : (a : Int) ≤ x ∧ x < b := by
  unfold rng at h
  obtain ⟨i, hi, rfl⟩ := List.mem_map.mp h
  have := List.mem_range.mp hi
  omega
theorem rng_nodup (a b : Nat) : (rng a b).Nodup := by
  unfold rng
  rw [List.nodup_iff_pairwise_ne, List.pairwise_map]
  exact List.Pairwise.imp (fun h e => h (by omega)) List.nodup_range
theorem cut_mid (xs : List Int) (n : Nat) : cutV (xs.map V.int) (some 1) (some ((1 + n : Nat) : Int)) = ((xs.drop 1).take n).map V.int := by
  have h1 : HT.sIx (xs.map V.int).length 0 (some 1) = min 1 (xs.map V.int).length := HT.sIx_nat _ _ 1
  unfold cutV
  rw [h1, HT.sIx_nat, List.map_take, List.map_drop, List.length_map]
  cases xs with
  | nil => simp
  | cons x xs =>
    rw [List.length_cons, show min 1 (xs.length + 1) = 1 by omega]
    by_cases h : 1 + n ≤ xs.length + 1
    · rw [Nat.min_eq_left h, show 1 + n - 1 = n by omega]
    · rw [Nat.min_eq_right (by omega), List.take_of_length_le (by simp), List.take_of_length_le (by simp; omega)]
section
variable {P : Program} {w : World} {K : PySem.W.Frag} {mg : Str → Option Value} {base : Heap}
def spMx (K : PySem.W.Frag) : Sp := fun vs H Q _ => ∃ (st c r l : Addr) (t : Nat) (ns : List Int), vs = [.ref st, .ref l] ∧ DU H st c r t ∧ t + 50 ≤ 900000 ∧ H l = some (.lst (ns.map V.int)) ∧ ns.length ≤ 50 ∧
  ∀ (H' : Hp) (p : Addr) (ms : List Int), (∀ x ∈ ms, x ∈ ns) → (ns.Nodup → ms.Nodup) → ms.length = ns.length → H' p = some (.lst (ms.map V.int)) → p ≠ st → p ≠ c → p ≠ r → H p = none → DU H' st c r (t + ns.length) → Ext st r H H' → Q (.ref p) H'
set_option maxHeartbeats 4000000 in
theorem ok_Mx {f fDr : Addr} {fd fdDr : FuncData} (F : Fun K "_law_mixed" "_law_mixed" sMx f fd)
    (FDr : Fun K "_law_draw" "_law_draw" sDr fDr fdDr) (bDr : Binds K fdDr ["_law_deck_here", "_law_many"] []) (gDr : mg "_law_draw" = some (.ref fDr)) (GDr : FnOk P w K mg base CX0 1 fDr fdDr ["_law_deck_here", "_law_many"] spDraw)
    (m_list : mg "list" = none) (m_len : mg "len" = none) :
    FnOk P w K mg base CX0 2 f fd ["_law_deck_here", "_law_items"] (spMx K) := by
  refine F.ok scMx (fun vs H Q E h => ?_) (fun cdv A outer s H vs Q E hr h => ?_)
  · obtain ⟨st, c, r, l, t, ns, rfl, _⟩ := h; rfl
  · obtain ⟨st, c, r, l, t, ns, rfl, hd, ht, hl, hn, q⟩ := h
    have hu64 : (A.deeper (envOfC "_law_mixed" (defScope sMx) s.heap.objs.size f cdv)).units + 64 < cLine := by have := hr.un; omega
    refine ⟨_, pss_cons (ps_set (i := 2) scMx.nd rfl (.inl rfl) (pe_callTy call_list_of (by rfl) m_list (by decide +kernel) (pa_cons (pv 1) pa_nil)))
      (pss_cons (ps_set (i := 3) scMx.nd rfl (.inl rfl) (pe_lst (pa_nil)))
      (pss_cons (ps_while PassesOwn.never (pt_cmpR (op_neD hu64) (pv 2) (pe_lst (pa_nil)) (nomark _))
        (pss_one (ps_expr (pe_bm PySem.F.plainAttrs_list PySem.F.slot_list_append PySem.F.type_list_append mt_append (pv 3) (pa_cons (pe_bm PySem.F.plainAttrs_list PySem.F.slot_list_pop PySem.F.type_list_pop mt_popAt (pv 2) (pa_cons (pe_call GDr (hr.mono (by omega)) (by rfl) gDr FDr.kp bDr .nil pass0 (pa_cons (pv 0) (pa_cons (pe_callB call_lenQ (by rfl) m_len PySem.boot_len (pa_cons (pv 2) pa_nil)) pa_nil))) pa_nil)) pa_nil)))))
      (pss_one (ps_ret (pv 3))))), ?_⟩
    refine ⟨.ref l, rfl, l, _, rfl, .inl (SqL.of hl), fun Le nLe => ⟨Nat.zero_le _, fun Fo nFo => ?_⟩⟩
    have oLe := hd.off nLe
    have d1 := hd.new nLe (o := .lst (ns.map V.int))
    have oFo := d1.off nFo
    have fFo : H Fo = none := freeOf nFo
    have nLF : Le ≠ Fo := ne_of_none upd_same nFo
    refine ⟨fun m σ H2 => ∃ (ls ms : List Int) (t2 : Nat), σ = [some (.ref st), some (.ref l), some (.ref Le), some (.ref Fo)] ∧ ls.length = m ∧ DU H2 st c r t2 ∧ t2 = t + ms.length ∧ Ext st r H H2 ∧
        H2 Le = some (.lst (ls.map V.int)) ∧ H2 Fo = some (.lst (ms.map V.int)) ∧ ls.length + ms.length = ns.length ∧ (∀ x ∈ ls, x ∈ ns) ∧ (∀ x ∈ ms, x ∈ ns) ∧ (ns.Nodup → (ms ++ ls).Nodup),
      ⟨ns.length, ns, [], t, rfl, rfl, d1.new nFo, rfl, (Ext.of (sameNew nLe)).trans (Ext.of (sameNew nFo)), upNew nFo upd_same, upd_same, rfl, fun x h => h, fun x h => by simp at h, fun h => by simpa using h⟩, ?_⟩
    rintro m σ H2 ⟨ls, ms, t2, rfl, rfl, d2, ht2, x2, eL, eF, hlen, bl, bm, bn⟩
    refine ⟨.ref Le, rfl, Nat.zero_le _, fun p np => ⟨.list (ls.map PyData.int), .list [], .lst (SqL.of (upNew np eL)) (dp_ints ls), .lst (SqL.of upd_same) .nil, shaped_ints ls, by decide, _, rfl, ?_⟩⟩
    rw [eqv_empty]
    have oN := d2.off np
    have eL2 := upNew np (o := .lst []) eL
    have eF2 := upNew np (o := .lst []) eF
    cases ls with
    | nil =>
      have hml : ms.length = ns.length := by simpa using hlen
      have dz : DU (upd H2 p (.lst [])) st c r (t + ns.length) := by rw [← hml, ← ht2]; exact d2.new np
      exact ⟨.ref Fo, rfl, q _ Fo ms bm (fun z => by simpa using bn z) hml eF2 oFo.1 oFo.2.1 oFo.2.2 fFo dz (x2.trans (Ext.of (sameNew np)))⟩
    | cons a ls' =>
      have hpos : 0 < (a :: ls').length := by simp
      refine ⟨fun σ' H' => ∃ (ls2 ms2 : List Int) (t2 : Nat), σ' = [some (.ref st), some (.ref l), some (.ref Le), some (.ref Fo)] ∧ ls2.length = ls'.length ∧ DU H' st c r t2 ∧ t2 = t + ms2.length ∧ Ext st r H H' ∧
        H' Le = some (.lst (ls2.map V.int)) ∧ H' Fo = some (.lst (ms2.map V.int)) ∧ ls2.length + ms2.length = ns.length ∧ (∀ x ∈ ls2, x ∈ ns) ∧ (∀ x ∈ ms2, x ∈ ns) ∧ (ns.Nodup → (ms2 ++ ls2).Nodup), ?_, ?_⟩
      · rintro σ' H' ⟨ls2, ms2, t3, e1, e2, r3⟩
        exact ⟨ls'.length, by simp, ls2, ms2, t3, e1, e2, r3⟩
      · refine ⟨.ref Fo, rfl, .inl ⟨rfl, _, SqL.of eF2⟩, .ref Le, rfl, .inl ⟨rfl, _, SqL.of eL2⟩, .ref st, rfl, .ref Le, rfl, Le, _, rfl, .inl (SqL.of eL2), st, c, r, t2, _, rfl, d2.new np, by omega, by rw [List.length_map]; omega, by rw [List.length_map]; omega, fun H3 d h0 h1 D3 X3 => ?_⟩
        have eL3 := X3 _ _ eL2 oLe.1 oLe.2.2
        have eF3 := X3 _ _ eF2 oFo.1 oFo.2.2
        rw [List.length_map] at h1
        have hk : d.toNat < (a :: ls').length := by omega
        have eF4 : (upd H3 Le (.lst (((a :: ls').map V.int).eraseIdx d.toNat))) Fo = some (.lst (ms.map V.int)) := by rw [upd_ne nLF.symm]; exact eF3
        refine ⟨Le, _, d, d.toNat, .int (a :: ls')[d.toNat], rfl, rfl, eL3, by omega, by simp at hlen h1; omega, seqIndex_of h0 (by rw [List.length_map]; exact h1), by rw [List.getElem?_map, List.getElem?_eq_getElem hk]; rfl, Fo, _, _, rfl, rfl, eF4, ?_, ?_⟩
        · rw [List.length_map]; exact small (by simp at hlen; omega)
        refine ⟨(a :: ls').eraseIdx d.toNat, ms ++ [(a :: ls')[d.toNat]], t2 + 1, rfl, ?_, (D3.put oLe).put oFo, by simp; omega, ExtPut (ExtPut ((x2.trans (Ext.of (sameNew np))).trans X3) nLe) fFo, ?_, ?_, ?_, ?_, ?_, fun z => nodup_step hk (bn z)⟩
        · rw [List.length_eraseIdx_of_lt hk]; simp
        · rw [upd_ne nLF, upd_same, erase_map]
        · rw [upd_same, List.map_append]; rfl
        · rw [List.length_eraseIdx_of_lt hk]; simp at hlen ⊢; omega
        · exact fun x hx => bl x (List.mem_of_mem_eraseIdx hx)
        · intro x hx
          rw [List.mem_append] at hx
          rcases hx with h | h
          · exact bm x h
          · simp only [List.mem_singleton] at h; rw [h]; exact bl _ (List.getElem_mem hk)
def spAm : Sp := fun vs H Q _ => ∃ (st c r : Addr) (t : Nat) (m : Int), vs = [.ref st, .int m] ∧ DU H st c r t ∧ t + 3 < 900000 ∧ 0 ≤ m ∧ m ≤ 10 ^ 12 ∧
  ∀ (H' : Hp) (d : Int), 0 ≤ d → d ≤ m → DU H' st c r (t + 3) → Ext st r H H' → Q (.int d) H'
set_option maxHeartbeats 4000000 in
theorem ok_Am {f fDr : Addr} {fd fdDr : FuncData} (F : Fun K "_law_amount" "_law_amount" sAm f fd)
    (FDr : Fun K "_law_draw" "_law_draw" sDr fDr fdDr) (bDr : Binds K fdDr ["_law_deck_here", "_law_many"] []) (gDr : mg "_law_draw" = some (.ref fDr)) (GDr : FnOk P w K mg base CX0 1 fDr fdDr ["_law_deck_here", "_law_many"] spDraw)
    (m_min : mg "min" = none) :
    FnOk P w K mg base CX0 2 f fd ["_law_deck_here", "_law_most"] spAm := by
  refine F.ok scAm (fun vs H Q E h => ?_) (fun cdv A outer s H vs Q E hr h => ?_)
  · obtain ⟨st, c, r, t, m, rfl, _⟩ := h; rfl
  · obtain ⟨st, c, r, t, m, rfl, hd, ht, hm, hm2, q⟩ := h
    refine ⟨_, pss_cons (ps_set (i := 2) scAm.nd rfl (.inl rfl) (pe_call GDr (hr.mono (by omega)) (by rfl) gDr FDr.kp bDr .nil pass0 (pa_cons (pv 0) (pa_cons (pe_op op_add (pe_callB (call_min2 rfl) (by rfl) m_min (by decide +kernel) (pa_cons (pv 1) (pa_cons (pe_int) pa_nil))) (pe_int)) pa_nil))))
      (pss_one (ps_ret (pe_ix ix_list (pe_lst (pa_cons (pv 2) (pa_cons (pe_op op_sub (pv 1) (pv 2)) (pa_cons (pe_call GDr (hr.mono (by omega)) (by rfl) gDr FDr.kp bDr .nil pass0 (pa_cons (pv 0) (pa_cons (pe_op op_add (pv 1) (pe_int)) pa_nil))) pa_nil)))) (pe_call GDr (hr.mono (by omega)) (by rfl) gDr FDr.kp bDr .nil pass0 (pa_cons (pv 0) (pa_cons (pe_int) pa_nil))) (fun _ _ => rfl)))), ?_⟩
    refine ⟨.ref st, rfl, .int m, rfl, _, _, rfl, _, _, rfl, rfl, st, c, r, t, _, rfl, hd, by omega, by split <;> omega, by split <;> omega, fun H1 f h10 h11 D1 X1 => ?_⟩
    have hf : f ≤ m := by split at h11 <;> omega
    refine ⟨.int f, rfl, .int m, rfl, .int f, rfl, _, _, rfl, rfl, .ref st, rfl, .int m, rfl, _, _, rfl, rfl, st, c, r, t + 1, _, rfl, D1, by omega, by omega, by omega, fun H2 g h20 h21 D2 X2 => ⟨(show (3 : Nat) ≤ sizeLine by decide), fun L nL => ?_⟩⟩
    have oL := D2.off nL
    refine ⟨.ref st, rfl, st, c, r, t + 2, 3, rfl, D2.new nL, by omega, by decide, by decide, fun H3 k h30 h31 D3 X3 => ?_⟩
    have eL := X3 _ _ (upd_same (a := L) (H := H2)) oL.1 oL.2.2
    have x3 := ((X1.trans X2).trans (Ext.of (sameNew nL))).trans X3
    obtain ⟨d, hat, d0, d1⟩ : ∃ d : Int, atI [V.int f, V.int (m - f), V.int g] k = some (.int d) ∧ 0 ≤ d ∧ d ≤ m := by
      obtain h | h | h : k = 0 ∨ k = 1 ∨ k = 2 := by omega
      · exact ⟨f, by rw [h]; rfl, h10, hf⟩
      · exact ⟨m - f, by rw [h]; rfl, by omega, by omega⟩
      · exact ⟨g, by rw [h]; rfl, h20, by omega⟩
    exact ⟨L, _, _, _, rfl, rfl, SqL.of eL, hat, q _ _ d0 d1 D3 x3⟩
def spLi (K : PySem.W.Frag) : Sp := fun vs H Q _ => ∃ (st c r : Addr) (t n : Nat), vs = [.ref st, .int n] ∧ DU H st c r t ∧ t + 100 < 900000 ∧ 1 ≤ n ∧ n ≤ 6 ∧
  ∀ (H' : Hp) (p : Addr) (t' : Nat) (ps : List Int), DU H' st c r t' → t' ≤ t + 20 → Ext st r H H' → SqT K H' p (ps.map V.int) → ps.Nodup → (∀ p ∈ ps, 0 ≤ p ∧ p < (n : Int)) → ps.length ≤ 6 → Q (.ref p) H'
set_option maxHeartbeats 4000000 in
theorem ok_Li {f fDr fMx : Addr} {fd fdDr fdMx : FuncData} (F : Fun K "_law_lines" "_law_lines" sLi f fd)
    (FDr : Fun K "_law_draw" "_law_draw" sDr fDr fdDr) (bDr : Binds K fdDr ["_law_deck_here", "_law_many"] []) (gDr : mg "_law_draw" = some (.ref fDr)) (GDr : FnOk P w K mg base CX0 1 fDr fdDr ["_law_deck_here", "_law_many"] spDraw)
    (FMx : Fun K "_law_mixed" "_law_mixed" sMx fMx fdMx) (bMx : Binds K fdMx ["_law_deck_here", "_law_items"] []) (gMx : mg "_law_mixed" = some (.ref fMx)) (GMx : FnOk P w K mg base CX0 2 fMx fdMx ["_law_deck_here", "_law_items"] (spMx K))
    (m_max : mg "max" = none) (m_list : mg "list" = none) (m_range : mg "range" = none) (m_tuple : mg "tuple" = none) :
    FnOk P w K mg base CX0 3 f fd ["_law_deck_here", "_law_posts"] (spLi K) := by
  refine F.ok scLi (fun vs H Q E h => ?_) (fun cdv A outer s H vs Q E hr h => ?_)
  · obtain ⟨st, c, r, t, n, rfl, _⟩ := h; rfl
  · obtain ⟨st, c, r, t, n, rfl, hd, ht, hn1, hn6, q⟩ := h
    refine ⟨_, pss_cons (ps_set (i := 2) scLi.nd rfl (.inl rfl) (pe_callB (call_max2 rfl) (by rfl) m_max (by decide +kernel) (pa_cons (pe_int) (pa_cons (pe_op op_fdiv (pv 1) (pe_int)) pa_nil))))
      (pss_cons (ps_if (pt_cmpR op_eq (pe_call GDr (hr.mono (by omega)) (by rfl) gDr FDr.kp bDr .nil pass0 (pa_cons (pv 0) (pa_cons (pe_int) pa_nil))) (pe_int) (nomark _))
        (pss_one (ps_ret (pe_tup (pa_nil)))) pss_nil)
      (pss_cons (ps_set (i := 3) scLi.nd rfl (.inl rfl) (pe_slice sl_list (pe_call GMx (hr.mono (by omega)) (by rfl) gMx FMx.kp bMx .nil pass0 (pa_cons (pv 0) (pa_cons (pe_listRg rfl (by rfl) m_list (prg_2 (by rfl) m_range (pv 2) (pv 1))) pa_nil))) po_none (po_some (pe_call GDr (hr.mono (by omega)) (by rfl) gDr FDr.kp bDr .nil pass0 (pa_cons (pv 0) (pa_cons (pe_op op_add (pe_op op_sub (pv 1) (pv 2)) (pe_int)) pa_nil))))))
      (pss_cons (ps_set (i := 4) scLi.nd rfl (.inl rfl) (pe_call GMx (hr.mono (by omega)) (by rfl) gMx FMx.kp bMx .nil pass0 (pa_cons (pv 0) (pa_cons (pe_listRg rfl (by rfl) m_list (prg_1 (by rfl) m_range (pv 2))) pa_nil))))
      (pss_cons (ps_set (i := 5) scLi.nd rfl (.inl rfl) (pe_slice sl_list (pv 4) (po_some (pe_int)) (po_some (pe_op op_add (pe_int) (pe_call GDr (hr.mono (by omega)) (by rfl) gDr FDr.kp bDr .nil pass0 (pa_cons (pv 0) (pa_cons (pe_int) pa_nil)))))))
      (pss_one (ps_ret (pe_callTy call_tupQ (by rfl) m_tuple (by decide +kernel) (pa_cons (pe_op op_cat (pe_op op_cat (pe_slice sl_list (pv 4) po_none (po_some (pe_int))) (pv 5)) (pv 3)) pa_nil)))))))), ?_⟩
    obtain ⟨f, hf, f1, f2⟩ : ∃ f : Nat, (if (1 : Int) < (n : Int) / 2 then (n : Int) / 2 else 1) = (f : Int) ∧ 1 ≤ f ∧ f ≤ n := ⟨(if (1 : Int) < (n : Int) / 2 then (n : Int) / 2 else 1).toNat, by split <;> omega, by split <;> omega, by split <;> omega⟩
    refine ⟨.int n, rfl, _, _, rfl, rfl, ⟨by decide, by decide⟩, _, _, rfl, ?_⟩
    dsimp only
    rw [hf]
    refine ⟨.ref st, rfl, st, c, r, t, 12, rfl, hd, by omega, by decide, by decide, fun H1 e h10 h11 D1 X1 => ⟨rfl, _, rfl, ?_⟩⟩
    by_cases he : e = 0
    · rw [show decide (V.int e = V.int 0) = true from decide_eq_true (by rw [he])]
      refine iteT ⟨Nat.zero_le _, fun p np => q _ p (t + 1) [] (D1.new np) (by omega) (X1.trans (Ext.of (sameNew np))) (SqT.of upd_same) (by simp) (by simp) (by simp)⟩
    rw [show decide (V.int e = V.int 0) = false from decide_eq_false (fun z => he (V.int.inj z))]
    refine iteF ?_
    refine ⟨.ref st, rfl, .int f, rfl, .int n, rfl, _, _, rfl, rfl, RgOk.of_le (by omega) (by omega) (by omega) (by omega), fun La nLa => ?_⟩
    refine ⟨st, c, r, La, t + 1, rng f n, rfl, D1.new nLa, by omega, by rw [upd_same, rgV_rng], by rw [rng_len]; omega, fun H2 Ra ra hra hrn hrl eRa a1 a2 a3 nRa D2 X2 => ?_⟩
    rw [rng_len] at hrl D2
    refine ⟨.ref st, rfl, .int n, rfl, .int f, rfl, _, _, rfl, rfl, _, _, rfl, rfl, st, c, r, _, _, rfl, D2, by omega, by omega, by omega, fun H3 k h30 h31 D3 X3 => ⟨k, rfl, Ra, _, rfl, SqL.of (X3 _ _ eRa a1 a3), fun W nW => ?_⟩⟩
    obtain ⟨kn, rfl⟩ : ∃ kn : Nat, k = kn := ⟨k.toNat, by omega⟩
    rw [show cutV (ra.map V.int) none (some (kn : Int)) = (ra.take kn).map V.int by rw [List.map_take]; exact cut_to _ kn]
    have oW := D3.off nW
    have D4 := D3.new nW (o := .lst ((ra.take kn).map V.int))
    have x4 := (((X1.trans (Ext.of (sameNew nLa))).trans X2).trans X3).trans (Ext.of (sameNew (o := .lst ((ra.take kn).map V.int)) nW))
    have eW : (upd H3 W (.lst ((ra.take kn).map V.int))) W = some (.lst ((ra.take kn).map V.int)) := upd_same
    generalize upd H3 W (.lst ((ra.take kn).map V.int)) = H4 at D4 x4 eW ⊢
    refine ⟨.ref st, rfl, .int f, rfl, f, rfl, RgOk.of_le (by omega) (by omega) (by omega) (by omega), fun Lb nLb => ?_⟩
    refine ⟨st, c, r, Lb, _, upTo f, rfl, D4.new nLb, by omega, by rw [upd_same, rgV_upTo], by rw [upTo_len]; omega, fun H5 Or os hos hon hol eOr b1 b2 b3 nOr D5 X5 => ?_⟩
    rw [upTo_len] at hol D5
    have x5 := (x4.trans (Ext.of (sameNew nLb))).trans X5
    have eW5 := X5 _ _ ((sameNew nLb) _ _ eW) oW.1 oW.2.2
    refine ⟨.ref Or, rfl, 1, rfl, .ref st, rfl, st, c, r, _, 3, rfl, D5, by omega, by decide, by decide, fun H6 m h60 h61 D6 X6 => ⟨_, _, rfl, rfl, _, rfl, Or, _, rfl, SqL.of (X6 _ _ eOr b1 b3), fun Bw nBw => ?_⟩⟩
    have eOr6 := X6 _ _ eOr b1 b3
    have eW6 := X6 _ _ eW5 oW.1 oW.2.2
    obtain ⟨mn, rfl⟩ : ∃ mn : Nat, m = mn := ⟨m.toNat, by omega⟩
    dsimp only
    rw [show (1 : Int) + (mn : Int) = ((1 + mn : Nat) : Int) by omega, cut_mid]
    have sB := sameNew (o := .lst (((os.drop 1).take mn).map V.int)) nBw
    have D7 := D6.new nBw (o := .lst (((os.drop 1).take mn).map V.int))
    have eB : (upd H6 Bw (.lst (((os.drop 1).take mn).map V.int))) Bw = some (.lst (((os.drop 1).take mn).map V.int)) := upd_same
    have eOr7 := sB _ _ eOr6
    have eW7 := sB _ _ eW6
    have x7 := (x5.trans X6).trans (Ext.of sB)
    generalize upd H6 Bw (.lst (((os.drop 1).take mn).map V.int)) = H7 at D7 eB eOr7 eW7 x7 ⊢
    refine ⟨.ref Or, rfl, 1, rfl, Or, _, rfl, SqL.of eOr7, fun P1 nP1 => ?_⟩
    rw [show cutV (os.map V.int) none (some 1) = (os.take 1).map V.int by rw [List.map_take]; exact cut_to _ 1]
    have s1 := sameNew (o := .lst ((os.take 1).map V.int)) nP1
    have sz := small (n := 100) (by decide)
    refine ⟨.ref Bw, rfl, P1, Bw, _, _, rfl, rfl, upd_same, s1 _ _ eB, by rw [List.length_map, List.length_map, List.length_take, List.length_take, List.length_drop]; omega, fun P2 nP2 => ?_⟩
    rw [← List.map_append]
    have s2 := s1.trans (sameNew (o := .lst ((os.take 1 ++ (os.drop 1).take mn).map V.int)) nP2)
    refine ⟨.ref W, rfl, P2, W, _, _, rfl, rfl, upd_same, s2 _ _ eW7, by rw [List.length_map, List.length_map, List.length_append, List.length_take, List.length_take, List.length_take, List.length_drop]; omega, fun P3 nP3 => ?_⟩
    rw [← List.map_append]
    have s3 := s2.trans (sameNew (o := .lst (((os.take 1 ++ (os.drop 1).take mn) ++ ra.take kn).map V.int)) nP3)
    refine ⟨P3, _, rfl, .inl ⟨SqL.of upd_same, fun T nT => ?_⟩⟩
    have s4 := s3.trans (sameNew (o := .tup (((os.take 1 ++ (os.drop 1).take mn) ++ ra.take kn).map V.int)) nT)
    have hon := hon (upTo_nodup f)
    have hrn := hrn (rng_nodup f n)
    have hsub : ∀ x ∈ os.take 1 ++ (os.drop 1).take mn, x ∈ os := fun x hx => (List.mem_append.mp hx).elim List.mem_of_mem_take (fun h => List.mem_of_mem_drop (List.mem_of_mem_take h))
    have hpre : (os.take 1 ++ (os.drop 1).take mn) = os.take (1 + mn) := by rw [List.take_add]
    refine q _ T _ ((os.take 1 ++ (os.drop 1).take mn) ++ ra.take kn) (D7.same s4) (by omega) (x7.trans (Ext.of s4)) (SqT.of upd_same) ?_ (fun p hp => ?_) ?_
    · rw [List.nodup_append]
      refine ⟨?_, (List.take_sublist kn ra).nodup hrn, fun a ha b hb e => ?_⟩
      · rw [hpre]; exact (List.take_sublist _ os).nodup hon
      · have h1 := upTo_mem (hos a (hsub a ha))
        have h2 := rng_mem (hra b (List.mem_of_mem_take hb))
        omega
    · rcases List.mem_append.mp hp with h | h
      · have := upTo_mem (hos p (hsub p h)); omega
      · have := rng_mem (hra p (List.mem_of_mem_take h)); omega
    · rw [List.length_append, List.length_append, List.length_take, List.length_take, List.length_take, List.length_drop]; omega
end
end Pv

namespace Pv
open PySem PySem.Spec PyProof.Rows L2
abbrev sSl : Stmt := topS 32
theorem scSl : FnScope ["_law_deck_here", "_law_posts", "_law_capacities", "_law_shared", "_law_groups", "_law_group", "_law_order", "_law_size", "_law_post"] ["_law_deck_here"] (defScope sSl) := ⟨rfl, rfl, rfl, by decide +kernel, rfl, by decide +kernel, by decide +kernel⟩
theorem filt_ne (sh : Int) (os : List Int) : os.filterMap (fun x => if x = sh then none else some (V.int x)) = (os.filter (fun x => x != sh)).map V.int := by
  induction os with
  | nil => rfl
  | cons x l ih =>
    rw [List.filterMap_cons, List.filter_cons]
    by_cases e : x = sh
    · rw [if_pos e, if_neg (by simp [e])]; exact ih
    · rw [if_neg e, if_pos (by simp [e])]; dsimp only; rw [List.map_cons, ← ih]
theorem nodup_le : ∀ {n : Nat} {ms : List Int}, ms.Nodup → (∀ x ∈ ms, 0 ≤ x ∧ x < (n : Int)) → ms.length ≤ n := by
  intro n
  induction n with
  | zero =>
    intro ms _ hb
    cases ms with
    | nil => simp
    | cons x ms => have := hb x (List.mem_cons_self ..); omega
  | succ n ih =>
    intro ms hnd hb
    have h1 := ih (ms := ms.erase (n : Int)) (hnd.erase _) (fun x hx => by
      have := (List.Nodup.mem_erase_iff hnd).mp hx
      have := hb x this.2
      omega)
    have h2 := List.length_erase (a := (n : Int)) (l := ms)
    split at h2 <;> omega
section
variable {P : Program} {w : World} {K : PySem.W.Frag} {mg : Str → Option Value} {base : Heap}
def spSl (K : PySem.W.Frag) : Sp := fun vs H Q _ => ∃ (st c r : Addr) (t : Nat), vs = [.ref st] ∧ DU H st c r t ∧ t + 200 < 900000 ∧
  ∀ (H' : Hp) (p : Addr) (t' : Nat) (cs : List Int) (gs : List Gp), DU H' st c r t' → t' ≤ t + 100 → Ext st r H H' → Dp K H' (.ref p) (dInst cs gs) → InsOk cs gs → cs.length ≤ 3 → gs.length ≤ 3 → (∀ c ∈ cs, c ≤ 3) → (∀ g ∈ gs, g.1.length ≤ 3 ∧ g.2 ≤ 3) → (∀ g ∈ gs, g.1.Nodup) → Q (.ref p) H'
set_option maxHeartbeats 8000000 in
theorem ok_Sl {f fDr fMx : Addr} {fd fdDr fdMx : FuncData} (F : Fun K "_law_small" "_law_small" sSl f fd)
    (FDr : Fun K "_law_draw" "_law_draw" sDr fDr fdDr) (bDr : Binds K fdDr ["_law_deck_here", "_law_many"] []) (gDr : mg "_law_draw" = some (.ref fDr)) (GDr : FnOk P w K mg base CX0 1 fDr fdDr ["_law_deck_here", "_law_many"] spDraw)
    (FMx : Fun K "_law_mixed" "_law_mixed" sMx fMx fdMx) (bMx : Binds K fdMx ["_law_deck_here", "_law_items"] []) (gMx : mg "_law_mixed" = some (.ref fMx)) (GMx : FnOk P w K mg base CX0 2 fMx fdMx ["_law_deck_here", "_law_items"] (spMx K))
    (m_range : mg "range" = none) (m_tuple : mg "tuple" = none) (m_list : mg "list" = none) :
    FnOk P w K mg base CX0 3 f fd ["_law_deck_here"] (spSl K) := by
  refine F.ok scSl (fun vs H Q E h => ?_) (fun cdv A outer s H vs Q E hr h => ?_)
  · obtain ⟨st, c, r, t, rfl, _⟩ := h; rfl
  · obtain ⟨st, c, r, t, rfl, hd, ht, q⟩ := h
    refine ⟨_, pss_cons (ps_set (i := 1) scSl.nd rfl (.inl rfl) (pe_op op_add (pe_int) (pe_call GDr (hr.mono (by omega)) (by rfl) gDr FDr.kp bDr .nil pass0 (pa_cons (pv 0) (pa_cons (pe_int) pa_nil)))))
      (pss_cons (ps_set (i := 2) scSl.nd rfl (.inl rfl) (pe_callTy call_tupQ (by rfl) m_tuple (by decide +kernel) (pa_cons (pe_lc (own := [("_law_post", 8)]) (g := gName 8) (tt := tYes) (te := tOp (rI0 fun i j => .int (i + j)) (tC (.int 1)) (tCall spDraw [] E0 (tCons (tVar 0) (tCons (tOp (rIxL K) (tLst (tCons (tC (.int 2)) (tCons (tC (.int 3)) tNil))) (tCall spDraw [] E0 (tCons (tVar 0) (tCons (tC (.int 2)) tNil)))) tNil)))) rfl scSl.nd (pi_range1 (by rfl) m_range (pa_cons (pv 1) pa_nil)) (blkOk_by (N := ["_law_deck_here", "_law_posts", "_law_capacities", "_law_shared", "_law_groups", "_law_group", "_law_order", "_law_size", "_law_post"]) (sc := defScope sSl) (by decide +kernel)) (fun _ _ _ _ _ => pg_name (i := 8) scSl.nd rfl (.inl rfl)) (fun _ _ _ _ _ => pts_nil) (fun _ _ _ _ _ => pe_op op_add (pe_int) (pe_call GDr (hr.mono (by omega)) (by rfl) gDr FDr.kp bDr .nil pass0 (pa_cons (pv 0) (pa_cons (pe_ix ix_list (pe_lst (pa_cons (pe_int) (pa_cons (pe_int) pa_nil))) (pe_call GDr (hr.mono (by omega)) (by rfl) gDr FDr.kp bDr .nil pass0 (pa_cons (pv 0) (pa_cons (pe_int) pa_nil))) (fun _ _ => rfl)) pa_nil))))) pa_nil)))
      (pss_cons (ps_set (i := 3) scSl.nd rfl (.inr rfl) (pe_call GDr (hr.mono (by omega)) (by rfl) gDr FDr.kp bDr .nil pass0 (pa_cons (pv 0) (pa_cons (pv 1) pa_nil))))
      (pss_cons (ps_set (i := 4) scSl.nd rfl (.inl rfl) (pe_lst (pa_nil)))
      (pss_cons (ps_for PassesOwn.never rfl (pi_range1 (by rfl) m_range (pa_cons (pe_op op_add (pe_int) (pe_call GDr (hr.mono (by omega)) (by rfl) gDr FDr.kp bDr .nil pass0 (pa_cons (pv 0) (pa_cons (pe_int) pa_nil)))) pa_nil)) (pg_name (i := 5) scSl.nd rfl (.inl rfl))
        (pss_cons (ps_set (i := 6) scSl.nd rfl (.inl rfl) (pe_call GMx (hr.mono (by omega)) (by rfl) gMx FMx.kp bMx .nil pass0 (pa_cons (pv 0) (pa_cons (pe_listRg rfl (by rfl) m_list (prg_1 (by rfl) m_range (pv 1))) pa_nil))))
        (pss_cons (ps_if (pt_cmpR op_gt (pe_call GDr (hr.mono (by omega)) (by rfl) gDr FDr.kp bDr .nil pass0 (pa_cons (pv 0) (pa_cons (pe_int) pa_nil))) (pe_int) (nomark _))
          (pss_one (ps_set (i := 6) scSl.nd rfl (.inl rfl) (pe_op op_cat (pe_lst (pa_cons (pv 3) pa_nil)) (pe_lc (own := [("_law_post", 8)]) (g := gName 8) (tt := tTest (tOp rNe (tVar 8) (tVar 3))) (te := tVar 8) rfl scSl.nd (pi_list (pv 6)) (blkOk_by (N := ["_law_deck_here", "_law_posts", "_law_capacities", "_law_shared", "_law_groups", "_law_group", "_law_order", "_law_size", "_law_post"]) (sc := defScope sSl) (by decide +kernel)) (fun _ _ _ _ _ => pg_name (i := 8) scSl.nd rfl (.inl rfl)) (fun _ _ _ _ _ => pts_one (pt_cmpR op_ne (pv 8) (pv 3) (nomark _))) (fun _ _ _ _ _ => pv 8))))) pss_nil)
        (pss_cons (ps_set (i := 7) scSl.nd rfl (.inl rfl) (pe_ix ix_list (pe_lst (pa_cons (pv 1) (pa_cons (pv 1) (pa_cons (pe_call GDr (hr.mono (by omega)) (by rfl) gDr FDr.kp bDr .nil pass0 (pa_cons (pv 0) (pa_cons (pe_op op_add (pv 1) (pe_int)) pa_nil))) pa_nil)))) (pe_call GDr (hr.mono (by omega)) (by rfl) gDr FDr.kp bDr .nil pass0 (pa_cons (pv 0) (pa_cons (pe_int) pa_nil))) (fun _ _ => rfl)))
        (pss_one (ps_expr (pe_bm PySem.F.plainAttrs_list PySem.F.slot_list_append PySem.F.type_list_append mt_append (pv 4) (pa_cons (pe_tup (pa_cons (pe_callTy call_tupQ (by rfl) m_tuple (by decide +kernel) (pa_cons (pe_slice sl_list (pv 6) po_none (po_some (pv 7))) pa_nil)) (pa_cons (pe_op op_add (pe_int) (pe_call GDr (hr.mono (by omega)) (by rfl) gDr FDr.kp bDr .nil pass0 (pa_cons (pv 0) (pa_cons (pe_ix ix_list (pe_lst (pa_cons (pe_int) (pa_cons (pe_int) pa_nil))) (pe_call GDr (hr.mono (by omega)) (by rfl) gDr FDr.kp bDr .nil pass0 (pa_cons (pv 0) (pa_cons (pe_int) pa_nil))) (fun _ _ => rfl)) pa_nil)))) pa_nil))) pa_nil))))))))
      (pss_one (ps_ret (pe_tup (pa_cons (pv 2) (pa_cons (pe_callTy call_tupQ (by rfl) m_tuple (by decide +kernel) (pa_cons (pv 4) pa_nil)) pa_nil))))))))), ?_⟩
    have sz := small (n := 100) (by decide)
    have two : (2 : Nat) ≤ sizeLine := by decide
    refine ⟨.ref st, rfl, st, c, r, t, 3, rfl, hd, by omega, by decide, by decide, fun H1 d1 h10 h11 D1 X1 => ⟨_, _, rfl, rfl, ?_⟩⟩
    obtain ⟨n, hn⟩ : ∃ n : Nat, 1 + d1 = (n : Int) := ⟨(1 + d1).toNat, by omega⟩
    have hn6 : 1 ≤ n ∧ n ≤ 3 := by omega
    dsimp only
    rw [hn]
    refine ⟨.int n, rfl, n, rfl, by omega, by omega, fun D nD => lc_it (walk_range (lo := 0) (n := ((n : Int)).toNat)) (fun j Hj => ∃ (tj : Nat) (cl : List Int), DU Hj st c r tj ∧ tj ≤ t + 1 + 2 * j ∧ Ext st r H Hj ∧ Hj D = some (.lst (cl.map V.int)) ∧ cl.length = j ∧ ∀ x ∈ cl, 1 ≤ x ∧ x ≤ 3)
      ⟨t + 1, [], D1.new nD, by omega, X1.trans (Ext.of (sameNew nD)), upd_same, rfl, fun x h => by simp at h⟩ (fun _ _ _ _ => trivial) ?_ ?_⟩
    · rintro j x Hk Hj hj ⟨tj, cl, Dj, htj, xj, eDj, lcl, bcl⟩ ⟨rfl, rfl⟩
      have oD := D1.off nD
      refine ⟨rfl, .ref st, rfl, two, fun L nL => ?_⟩
      have oL := Dj.off nL
      refine ⟨.ref st, rfl, st, c, r, tj, 2, rfl, Dj.new nL, by omega, by decide, by decide, fun Ha z hz0 hz1 Da Xa => ?_⟩
      have eL := Xa _ _ (upd_same (a := L) (H := Hj) (o := .lst [.int 2, .int 3])) oL.1 oL.2.2
      obtain ⟨m, hat, m1, m2⟩ : ∃ m : Int, atI [V.int 2, V.int 3] z = some (.int m) ∧ 0 < m ∧ m ≤ 3 := by
        obtain h | h : z = 0 ∨ z = 1 := by omega
        · exact ⟨2, by rw [h]; rfl, by decide, by decide⟩
        · exact ⟨3, by rw [h]; rfl, by decide, by decide⟩
      refine ⟨L, _, _, _, rfl, rfl, SqL.of eL, hat, st, c, r, tj + 1, m, rfl, Da, by omega, m1, by omega, fun Hb y hy0 hy1 Db Xb => ⟨_, _, rfl, rfl, ?_⟩⟩
      have xjb := ((Ext.of (sameNew nL)).trans Xa).trans Xb
      have eDb := xjb _ _ eDj oD.1 oD.2.2
      refine ⟨_, eDb, small (by rw [List.length_map]; omega), tj + 2, cl ++ [1 + y], Db.put oD, by omega, ExtPut (xj.trans xjb) (D1.nil X1 nD), by rw [upd_same, List.map_append]; rfl, by rw [List.length_append]; simp only [List.length_cons, List.length_nil]; omega, fun x hx => ?_⟩
      rcases List.mem_append.mp hx with h | h
      · exact bcl x h
      · simp at h; omega
    rintro H2 ⟨t2, cs, D2, ht2, x2, eD2, lcs, bcs⟩
    have lcs : cs.length = n := by omega
    refine ⟨D, _, rfl, .inl ⟨SqL.of eD2, fun Tc nTc => ?_⟩⟩
    have oTc := D2.off nTc
    have D3 := D2.new nTc (o := .tup (cs.map V.int))
    have x3 := x2.trans (Ext.of (sameNew (o := .tup (cs.map V.int)) nTc))
    have hTc : SqT K (upd H2 Tc (.tup (cs.map V.int))) Tc (cs.map V.int) := SqT.of upd_same
    generalize upd H2 Tc (.tup (cs.map V.int)) = H3 at D3 x3 hTc ⊢
    refine ⟨.ref st, rfl, .int n, rfl, st, c, r, t2, _, rfl, D3, by omega, by omega, by omega, fun H4 sh h40 h41 D4 X4 => ?_⟩
    refine ⟨Nat.zero_le _, fun Rw nRw => ?_⟩
    have oRw := D4.off nRw
    have D5 := D4.new nRw (o := .lst [])
    have x35 : Ext st r H3 (upd H4 Rw (.lst [])) := X4.trans (Ext.of (sameNew nRw))
    have fRw : H Rw = none := D4.nil (x3.trans X4) nRw
    have fRw3 : H3 Rw = none := D4.nil X4 nRw
    have eR5 : (upd H4 Rw (.lst [])) Rw = some (.lst []) := upd_same
    generalize upd H4 Rw (.lst []) = H5 at D5 x35 eR5 ⊢
    refine ⟨.ref st, rfl, st, c, r, t2 + 1, 3, rfl, D5, by omega, by decide, by decide, fun H6 gm h60 h61 D6 X6 => ⟨_, _, rfl, rfl, ?_⟩⟩
    refine ⟨1 + gm, rfl, by omega, by omega, for_it (walk_range (lo := 0) (n := (1 + gm).toNat))
      (fun i σ Hi => ∃ (y5 y6 y7 : Option V) (ti : Nat) (vs : List V) (gs : List Gp), σ = [some (.ref st), some (.int n), some (.ref Tc), some (.int sh), some (.ref Rw), y5, y6, y7, none] ∧ DU Hi st c r ti ∧ ti ≤ t2 + 2 + 20 * i ∧ Ext st r H3 Hi ∧ Hi Rw = some (.lst vs) ∧ DpAll K Hi vs (gs.map dGrp) ∧ gs.length = i ∧ ∀ g ∈ gs, g.1.length ≤ 3 ∧ (∀ p ∈ g.1, 0 ≤ p ∧ p < (n : Int)) ∧ (1 ≤ g.2 ∧ g.2 ≤ 3) ∧ g.1.Nodup)
      ⟨none, none, none, t2 + 2, [], [], rfl, D6, by omega, x35.trans X6, X6 _ _ eR5 oRw.1 oRw.2.2, .nil, rfl, fun g h => by simp at h⟩ (fun _ _ _ _ _ => trivial) ?_ ?_⟩
    · rintro i v σ Hz Hi hlt ⟨y5, y6, y7, ti, vs, gs, rfl, Di, hti, xi, eRi, hvs, lgs, bgs⟩ ⟨rfl, rfl⟩
      have hi3 : i < 3 := by omega
      have lvs : vs.length = i := by rw [DpAll.len hvs, List.length_map, lgs]
      refine ⟨.ref st, rfl, .int n, rfl, n, rfl, RgOk.of_le (by omega) (by omega) (by omega) (by omega), fun Lr nLr => ?_⟩
      refine ⟨st, c, r, Lr, ti, upTo n, rfl, Di.new nLr, by omega, by rw [upd_same, rgV_upTo], by rw [upTo_len]; omega, fun Ha Om os hos hon hol eOm a1 a2 a3 nOm Da Xa => ?_⟩
      rw [upTo_len] at hol Da
      have xia : Ext st r Hi Ha := (Ext.of (sameNew nLr)).trans Xa
      have hob : ∀ x ∈ os, 0 ≤ x ∧ x < (n : Int) := fun x hx => upTo_mem (hos x hx)
      have hond := hon (upTo_nodup n)
      dsimp only
      refine (id ?_ : tSeq (tIfS _ _ _) _ _ _ _)
      refine seq_with (fun σ Hx => ∃ (Ow : Addr) (ow : List Int), σ = [some (.ref st), some (.int n), some (.ref Tc), some (.int sh), some (.ref Rw), some (.int (0 + (i : Nat))), some (.ref Ow), y7, none] ∧ DU Hx st c r (ti + n + 1) ∧ Ext st r Hi Hx ∧ Hx Ow = some (.lst (ow.map V.int)) ∧ ow.length ≤ 4 ∧ (∀ x ∈ ow, 0 ≤ x ∧ x < (n : Int)) ∧ ow.Nodup ∧ Ow ≠ st ∧ Ow ≠ r) (fun σ Hx h => ?_) (fun rest => ?_)
      · obtain ⟨Ow, ow, rfl, Dx, xix, eOw, low, bow, ndow, o1, o2⟩ := h
        refine ⟨.int n, rfl, .int n, rfl, .ref st, rfl, .int n, rfl, _, _, rfl, rfl, st, c, r, _, _, rfl, Dx, by omega, by omega, by omega, fun Hc k hk0 hk1 Dc Xc => ⟨(show (3 : Nat) ≤ sizeLine by decide), fun L nL => ?_⟩⟩
        have oL := Dc.off nL
        refine ⟨.ref st, rfl, st, c, r, _, 3, rfl, Dc.new nL, by omega, by decide, by decide, fun Hd z hz0 hz1 Dd Xd => ?_⟩
        have eL := Xd _ _ (upd_same (a := L) (H := Hc) (o := .lst [.int n, .int n, .int k])) oL.1 oL.2.2
        obtain ⟨m, hat⟩ : ∃ m : Nat, atI [V.int n, V.int n, V.int k] z = some (.int m) := by
          obtain h | h | h : z = 0 ∨ z = 1 ∨ z = 2 := by omega
          · exact ⟨n, by rw [h]; rfl⟩
          · exact ⟨n, by rw [h]; rfl⟩
          · exact ⟨k.toNat, by rw [h, Int.toNat_of_nonneg hk0]; rfl⟩
        refine ⟨L, _, _, _, rfl, rfl, SqL.of eL, hat, ?_⟩
        have xxd := (Xc.trans (Ext.of (sameNew (o := .lst [.int n, .int n, .int k]) nL))).trans Xd
        have xid := xix.trans xxd
        have eRd := xid _ _ eRi oRw.1 oRw.2.2
        have eOd := xxd _ _ eOw o1 o2
        refine ⟨.ref Rw, rfl, .inl ⟨rfl, _, SqL.of eRd⟩, .ref Ow, rfl, .int m, rfl, m, rfl, Ow, _, rfl, SqL.of eOd, fun W nW => ?_⟩
        rw [show cutV (ow.map V.int) none (some (m : Int)) = (ow.take m).map V.int by rw [List.map_take]; exact cut_to _ m]
        have sW := sameNew (o := .lst ((ow.take m).map V.int)) nW
        refine ⟨W, _, rfl, .inl ⟨SqL.of upd_same, fun Tg nTg => ?_⟩⟩
        have sTg := sW.trans (sameNew (o := .tup ((ow.take m).map V.int)) nTg)
        have De := Dd.same sTg
        have hTg : SqT K (upd (upd Hd W (.lst ((ow.take m).map V.int))) Tg (.tup ((ow.take m).map V.int))) Tg ((ow.take m).map V.int) := SqT.of upd_same
        generalize upd (upd Hd W (.lst ((ow.take m).map V.int))) Tg (.tup ((ow.take m).map V.int)) = He at sTg De hTg ⊢
        refine ⟨.ref st, rfl, two, fun L2 nL2 => ?_⟩
        have oL2 := De.off nL2
        refine ⟨.ref st, rfl, st, c, r, _, 2, rfl, De.new nL2, by omega, by decide, by decide, fun Hf z2 hf0 hf1 Df Xf => ?_⟩
        have eL2 := Xf _ _ (upd_same (a := L2) (H := He) (o := .lst [.int 2, .int 3])) oL2.1 oL2.2.2
        obtain ⟨m2, hat2, m21, m22⟩ : ∃ m : Int, atI [V.int 2, V.int 3] z2 = some (.int m) ∧ 0 < m ∧ m ≤ 3 := by
          obtain h | h : z2 = 0 ∨ z2 = 1 := by omega
          · exact ⟨2, by rw [h]; rfl, by decide, by decide⟩
          · exact ⟨3, by rw [h]; rfl, by decide, by decide⟩
        refine ⟨L2, _, _, _, rfl, rfl, SqL.of eL2, hat2, st, c, r, _, m2, rfl, Df, by omega, m21, by omega, fun Hg y hy0 hy1 Dg Xg => ⟨_, _, rfl, rfl, two, fun Tp nTp => ?_⟩⟩
        have xeg := ((Ext.of (sameNew (o := .lst [.int 2, .int 3]) nL2)).trans Xf).trans Xg
        have sTp := sameNew (o := .tup [.ref Tg, .int (1 + y)]) nTp
        have xih := ((xid.trans (Ext.of sTg)).trans xeg).trans (Ext.of sTp)
        have Dh := Dg.new nTp (o := .tup [.ref Tg, .int (1 + y)])
        have eRh := xih _ _ eRi oRw.1 oRw.2.2
        have hGp : Dp K (upd Hg Tp (.tup [.ref Tg, .int (1 + y)])) (.ref Tp) (dGrp (ow.take m, 1 + y)) := .tup (SqT.of upd_same) (.cons (dI_sq ((TupK.of sTp).sq ((De.tup xeg).sq hTg))) (.cons (.int _) .nil))
        have tki := Di.tup xih
        refine ⟨Rw, _, _, rfl, rfl, eRh, small (by omega), ?_⟩
        have tkp : TupK (upd Hg Tp (.tup [.ref Tg, .int (1 + y)])) (upd (upd Hg Tp (.tup [.ref Tg, .int (1 + y)])) Rw (.lst (vs ++ [.ref Tp]))) := TupK.put eRh
        refine ⟨_, _, _, _, vs ++ [.ref Tp], gs ++ [(ow.take m, 1 + y)], rfl, Dh.put oRw, by omega, ExtPut (xi.trans xih) fRw3, upd_same, ?_, by rw [List.length_append]; simp only [List.length_cons, List.length_nil]; omega, fun g hg => ?_⟩
        · rw [List.map_append]
          exact DpAll.snoc ((tki.trans tkp).dpAll _ _ (to_grps _) hvs) (tkp.dp _ _ (to_dGrp _) hGp)
        · rcases List.mem_append.mp hg with h | h
          · exact bgs g h
          · have e : g = (ow.take m, 1 + y) := by simpa using h
            subst e
            have hnd : (ow.take m).Nodup := (List.take_sublist m ow).nodup ndow
            have hb : ∀ p ∈ ow.take m, 0 ≤ p ∧ p < (n : Int) := fun p hp => bow p (List.mem_of_mem_take hp)
            have hl := nodup_le hnd hb
            exact ⟨by dsimp only; omega, hb, ⟨by omega, by omega⟩, hnd⟩
      · refine ⟨.ref st, rfl, st, c, r, _, 3, rfl, Da, by omega, by decide, by decide, fun Hb q1 hq0 hq1 Db Xb => ⟨_, _, rfl, rfl, _, rfl, ?_⟩⟩
        have xib := xia.trans Xb
        have eOb := Xb _ _ eOm a1 a3
        by_cases hq : 0 < q1
        · rw [decide_eq_true hq]
          refine iteT ⟨.int sh, rfl, (show (1 : Nat) ≤ sizeLine by decide), fun A1 nA1 => ?_⟩
          have sA1 := sameNew (o := .lst [.int sh]) nA1
          have eA1 : (upd Hb A1 (.lst [.int sh])) A1 = some (.lst [.int sh]) := upd_same
          have eO1 := sA1 _ _ eOb
          generalize upd Hb A1 (.lst [.int sh]) = Hc at sA1 eA1 eO1 ⊢
          refine ⟨.ref Om, rfl, Om, rfl, ⟨_, SqL.of eO1⟩, fun F nF => lc_it (walk_list (K := K) (a := Om) (xs := os.map V.int)) (LcP Hc F os (fun x => if x = sh then none else some (.int x))) (.start nF) (fun j Hx _ h => SqL.of (h.1 _ _ eO1)) ?_ ?_⟩
          · rintro j x Hd Hx hj hL ⟨rfl, hx⟩
            have hx : (os.map V.int)[j]? = some x := hx
            rw [List.getElem?_map] at hx
            obtain ⟨p, hp, rfl⟩ := Option.map_eq_some_iff.mp hx
            have hjl := (List.getElem?_eq_some_iff.mp hp).1
            refine ⟨rfl, .int p, rfl, .int sh, rfl, rfl, _, rfl, ?_⟩
            by_cases e : p = sh
            · rw [show decide (V.int p = V.int sh) = true from decide_eq_true (by rw [e])]
              exact iteF (hL.no (Same.refl _) hp (by rw [if_pos e]))
            · rw [show decide (V.int p = V.int sh) = false from decide_eq_false (fun z => e (V.int.inj z))]
              exact iteT ⟨_, rfl, hL.yes nF (Same.refl _) hp (by rw [if_neg e]) (by omega)⟩
          · rintro Hd hL
            have ed := hL.done (by rw [List.length_map]; exact Nat.le_refl _)
            rw [filt_ne] at ed
            have lf := List.length_filter_le (fun x => x != sh) os
            refine ⟨A1, F, _, _, rfl, rfl, hL.1 _ _ eA1, ed, by rw [List.length_map]; simp only [List.length_cons, List.length_nil]; omega, fun O2 nO2 => ?_⟩
            have oO2 := (Db.same (sA1.trans hL.1)).off nO2
            have s02 := (sA1.trans hL.1).trans (sameNew (o := .lst ((sh :: os.filter (fun x => x != sh)).map V.int)) nO2)
            refine rest _ _ ⟨O2, sh :: os.filter (fun x => x != sh), rfl, Db.same s02, xib.trans (Ext.of s02), upd_same, by rw [List.length_cons]; omega, fun x hx => ?_, ?_, oO2.1, oO2.2.2⟩
            · rcases List.mem_cons.mp hx with rfl | hx
              · omega
              · exact hob x ((List.mem_filter.mp hx).1)
            · rw [List.nodup_cons]
              exact ⟨fun h => by have := (List.mem_filter.mp h).2; simp at this, hond.filter _⟩
        · rw [decide_eq_false hq]
          exact iteF (rest _ _ ⟨Om, os, rfl, Db, xib, eOb, by omega, hob, hond, a1, a3⟩)
    · rintro σ Hi ⟨y5, y6, y7, ti, vs, gs, rfl, Di, hti, xi, eRi, hvs, lgs, bgs⟩
      have hgm : (1 + gm).toNat ≤ 3 ∧ 1 ≤ (1 + gm).toNat := by omega
      refine ⟨.ref Tc, rfl, .ref Rw, rfl, Rw, _, rfl, .inl ⟨SqL.of eRi, fun Tg nTg => ⟨two, fun I nI => ?_⟩⟩⟩
      have s1 := sameNew (o := .tup vs) nTg
      have s2 := sameNew (o := .tup [.ref Tc, .ref Tg]) nI
      have s12 := s1.trans s2
      refine q _ I ti cs gs (Di.same s12) (by omega) ((x3.trans xi).trans (Ext.of s12)) (.tup (SqT.of upd_same) (.cons (dI_sq ((TupK.of s12).sq ((D3.tup xi).sq hTc))) (.cons (.tup ((TupK.of s2).sq (SqT.of upd_same)) ((TupK.of s12).dpAll _ _ (to_grps _) hvs)) .nil))) ⟨by omega, by omega, fun c hc => by have := bcs c hc; omega, by omega, by omega, fun g hg => ?_⟩ (by omega) (by omega) (fun c hc => (bcs c hc).2) (fun g hg => ⟨(bgs g hg).1, (bgs g hg).2.2.1.2⟩) (fun g hg => (bgs g hg).2.2.2)
      obtain ⟨b1, b2, b3, b4⟩ := bgs g hg
      exact ⟨by omega, fun p hp => by have := b2 p hp; omega, b3.1, by omega⟩
end
end Pv

set_option maxHeartbeats 1000000
/-! zip over lists and tuples, a name as the target -/
namespace ZM
open PySem
abbrev ZAt (h : Heap) (z TI TO : Addr) (f0 : Value) (f1 : Bool) : Prop :=
  h.get? z = some { cls := .type "zip", dict := none, data := .fields #[f0, .bool f1, .bool false, .ref TI, .ref TO], slots := #[] }
abbrev TAt (h : Heap) (T : Addr) (xs : List Value) : Prop := h.get? T = some { cls := .type "tuple", data := .seq xs.toArray }
def itsOf (b n : Nat) : List Value := (List.range n).map fun k => .ref (b + k)
theorem its_len (b n : Nat) : (itsOf b n).length = n := by simp [itsOf]
theorem its_at {b n k : Nat} (h : k < n) : (itsOf b n)[k]? = some (.ref (b + k)) := by simp [itsOf, h]
/-- an iterator over a list (true) or a tuple -/
def IterK (c : Bool) (h : Heap) (it l : Addr) (i : Nat) : Prop := ∃ o, h.get? it = some o ∧ o.cls = .type (if c then "list_iterator" else "tuple_iterator") ∧ o.data = .fields #[.ref l, .int i 0]
def SeqK (c : Bool) (h : Heap) (l : Addr) (items : Array Value) : Prop := ∃ o, h.get? l = some o ∧ o.cls = .type (if c then "list" else "tuple") ∧ ∃ n, o.data = .seq items n
/-- where the zip's own objects stand: the iterators from b on, then the tuple of them, the tuple it keeps, the zip -/
structure St0 (kd : Nat → Bool) (h : Heap) (b : Nat) (rows : List Addr) (f0 : Value) (f1 : Bool) (at_ : Nat → Nat) : Prop where
  zip : ZAt h (b + rows.length + 2) (b + rows.length) (b + rows.length + 1) f0 f1
  ti : TAt h (b + rows.length) (itsOf b rows.length)
  to : ∃ kept : List Value, kept.length = rows.length ∧ TAt h (b + rows.length + 1) kept
  it : ∀ (k : Nat) (row : Addr), rows[k]? = some row → IterK (kd k) h (b + k) row (at_ k)
/-- what is not the zip's own stays -/
def Off (b n : Nat) (h h' : Heap) : Prop := ∀ c o, (c < b ∨ b + n + 2 < c) → h.get? c = some o → h'.get? c = some o
theorem Off.refl (b n : Nat) (h : Heap) : Off b n h h := fun _ _ _ e => e
theorem Off.trans {b n : Nat} {h h1 h2 : Heap} (x : Off b n h h1) (y : Off b n h1 h2) : Off b n h h2 := fun c o r e => y c o r (x c o r e)
theorem Off.but {b n c0 : Nat} {h h' : Heap} (e : Heap.SameBut c0 h h') (hc : b ≤ c0 ∧ c0 ≤ b + n + 2) : Off b n h h' := fun c o r x => by
  rw [e.2 c (fun z => by subst z; omega)]; exact x
section
variable {prog : Program} {w : World} {A : Around} {E : Value → Shared → Prop} {s : Shared} {kd : Nat → Bool}
theorem alive {a : Addr} {Q : Option Obj → Shared → Prop} (h : Q (s.heap.get? a) s) : wpAny (model prog w) A (loadIfAlive a) Q E s := by
  intro Γ p hΓ
  unfold loadIfAlive
  rw [Sem.wp_loadIfAlive]
  exact wpAny_pure h Γ p hΓ
theorem nextOf_item {c : Bool} {it l : Addr} {i : Nat} {items} {x : Value} {Q : Value → Shared → Prop} (hit : IterK c s.heap it l i) (hl : SeqK c s.heap l items) (hx : items[i]? = some x)
    (hQ : ∀ h', IterK c h' it l (i + 1) → Heap.SameBut it s.heap h' → Q x { s with heap := h' }) : wpAny (model prog w) A (Builtin.SmallTypes.nextOf (.ref it)) Q E s := by
  cases c with
  | false => exact RZ.nextOf_tuple_item hit hl hx hQ
  | true => exact wpAny_nextOf_list_item hit hl hx hQ
theorem nextOf_end {c : Bool} {it l : Addr} {i : Nat} {items} {Q : Value → Shared → Prop} (hh : A.handled = none) (hit : IterK c s.heap it l i) (hl : SeqK c s.heap l items) (hx : items[i]? = none)
    (hE : ∀ h' e, Heap.ExtBut it s.heap h' → (∃ o, h'.get? e = some o ∧ o.cls = .type "StopIteration") → E (.ref e) { s with heap := h' }) : wpAny (model prog w) A (Builtin.SmallTypes.nextOf (.ref it)) Q E s := by
  cases c with
  | false => exact RZ.nextOf_tuple_end hh hit hl hx hE
  | true => exact wpAny_nextOf_list_end hh hit hl hx hE
/-- the draws, one iterator after another, into the tuple that the zip keeps -/
structure Half (kd : Nat → Bool) (s : Shared) (b : Nat) (rows : List Addr) (i : Nat) (col : List Value) (f0 : Value) (f1 : Bool) (k : Nat) (s' : Shared) : Prop where
  ex : ∃ h', s' = { s with heap := h' } ∧ h'.objs.size = s.heap.objs.size ∧ Off b rows.length s.heap h' ∧ ZAt h' (b + rows.length + 2) (b + rows.length) (b + rows.length + 1) f0 f1 ∧ TAt h' (b + rows.length) (itsOf b rows.length) ∧
    (∃ kept : List Value, kept.length = rows.length ∧ TAt h' (b + rows.length + 1) kept ∧ kept.take k = col.take k) ∧ ∀ (j : Nat) (row : Addr), rows[j]? = some row → IterK (kd j) h' (b + j) row (if j < k then i + 1 else i)
theorem ne_nat {a b : Nat} (h : ¬ (a = b)) : (show Addr from a) ≠ (show Addr from b) := h
theorem tuple_off {c : Bool} {b n : Nat} {h h' : Heap} {l : Addr} {items : Array Value} (x : Off b n h h') (hl : l < b) (ht : SeqK c h l items) : SeqK c h' l items := by
  obtain ⟨o, ho, r⟩ := ht
  exact ⟨o, x l o (.inl hl) ho, r⟩
end
end ZM

namespace ZM
open PySem
section
variable {prog : Program} {w : World} {A : Around} {E : Value → Shared → Prop} {s : Shared} {kd : Nat → Bool}
theorem own_free {z TI TO : Addr} {f0 : Value} {f1 : Bool} (hz : ZAt s.heap z TI TO f0 f1) (hf : f0 = .none ∨ ∃ a : Nat, f0 = rawInt a) :
    wpAny (model prog w) A (Builtin.SmallTypes.ownedTupleIsFree (.ref z)) (fun r s' => (r = true ∧ s' = s) ∨ (r = false ∧ ∃ h', s' = { s with heap := h' } ∧ ZAt h' z TI TO f0 true ∧ Heap.SameBut z s.heap h')) E s := by
  unfold Builtin.SmallTypes.ownedTupleIsFree
  rcases hf with rfl | ⟨a, rfl⟩
  · exact wpAny_bind (wpAny_field hz rfl (x := .none) rfl (wpAny_pure (.inl ⟨rfl, rfl⟩)))
  · refine wpAny_bind (wpAny_field hz rfl (x := rawInt a) rfl ?_)
    show wpAny _ _ (loadIfAlive (Int.toNat a) >>= _) _ _ _
    refine wpAny_bind (alive ?_)
    rw [Int.toNat_natCast]
    cases e : s.heap.get? a with
    | none => exact wpAny_pure (.inl ⟨rfl, rfl⟩)
    | some o =>
      show wpAny _ _ (field (.ref z) 1 >>= _) _ _ _
      refine wpAny_bind (wpAny_field hz rfl (x := .bool f1) rfl ?_)
      cases f1 with
      | true => exact wpAny_pure (.inr ⟨rfl, s.heap, rfl, hz, ⟨rfl, fun _ _ => rfl⟩⟩)
      | false =>
        show wpAny _ _ (setField (.ref z) 1 (.bool true) >>= _) _ _ _
        exact wpAny_bind (wpAny_setField_rec hz (by simp) fun h' hz' hs' => wpAny_pure (.inr ⟨rfl, h', rfl, hz', hs'⟩))
theorem cons_drop {α : Type} {x : α} {rest L : List α} {k : Nat} (e : x :: rest = L.drop k) : L[k]? = some x ∧ rest = L.drop (k + 1) := by
  constructor
  · have := List.getElem?_drop (xs := L) (i := k) (j := 0)
    rw [← e] at this
    simpa using this.symm
  · rw [← List.drop_drop, ← e]; rfl
theorem zipIdx_at {b n k : Nat} {x : Value × Nat} (h : ((itsOf b n).zipIdx)[k]? = some x) : x = (.ref (b + k), k) ∧ k < n := by
  rw [List.getElem?_zipIdx] at h
  cases e : (itsOf b n)[k]? with
  | none => rw [e] at h; simp at h
  | some v =>
    have hk : k < n := by have := (List.getElem?_eq_some_iff.mp e).1; rw [its_len] at this; exact this
    rw [its_at hk] at e
    cases e
    rw [its_at hk] at h
    simp at h
    exact ⟨h.symm, hk⟩
set_option maxHeartbeats 4000000 in
theorem next_item {b : Nat} {rows : List Addr} {f0 : Value} {f1 : Bool} {i : Nat} {col : List Value} {Q : Value → Shared → Prop} (st : St0 kd s.heap b rows f0 f1 (fun _ => i)) (hf : f0 = .none ∨ ∃ a : Nat, f0 = rawInt a) (hn : 0 < rows.length) (hn2 : rows.length ≤ 1000)
    (hr : ∀ row ∈ rows, row < b) (hc : col.length = rows.length) (hx : ∀ (k : Nat) (row : Addr), rows[k]? = some row → ∃ (items : Array Value) (x : Value), SeqK (kd k) s.heap row items ∧ items[i]? = some x ∧ col[k]? = some x)
    (hQ : ∀ h' f0' f1', St0 kd h' b rows f0' f1' (fun _ => i + 1) → (f0' = .none ∨ ∃ a : Nat, f0' = rawInt a) → TAt h' s.heap.objs.size col → h'.objs.size = s.heap.objs.size + 1 → Off b rows.length s.heap h' → Q (.ref s.heap.objs.size) { s with heap := h' }) :
    wpAny (model prog w) A (Builtin.«zip.__next__» ⟨[.ref (b + rows.length + 2)], []⟩) (fun fin s' => ∃ v, fin = .done (.ret v) ∧ Q v s') E s := by
  show wpAny _ _ (field (.ref (b + rows.length + 2)) 2 >>= _) _ _ _
  refine wpAny_bind (wpAny_field st.zip rfl (x := .bool false) rfl ?_)
  show wpAny _ _ (field (.ref (b + rows.length + 2)) 3 >>= _) _ _ _
  refine wpAny_bind (wpAny_field st.zip rfl (x := .ref (b + rows.length)) rfl ?_)
  refine wpAny_bind (wpAny_seqItems st.ti rfl ?_)
  have hem : (itsOf b rows.length).toArray.isEmpty = false := by
    have := its_len b rows.length
    cases e : itsOf b rows.length with
    | nil => rw [e] at this; simp at this; omega
    | cons _ _ => rfl
  dsimp only
  rw [if_neg (by rw [hem]; exact Bool.false_ne_true)]
  refine wpAny_bind (wpAny_mono (own_free st.zip hf) (fun r s1 h1 => ?_) (fun _ _ x => x))
  have hlt : b + rows.length + 2 < s.heap.objs.size := Heap.lt_size st.zip
  rcases h1 with ⟨rfl, rfl⟩ | ⟨rfl, h1, rfl, hz1, hs1⟩
  · -- the tuple that it keeps is free
    rw [if_pos rfl]
    refine wpAny_bind (wpAny_rule ?_)
    refine wpAny_bind (wpAny_field st.zip rfl (x := .ref (b + rows.length + 1)) rfl ?_)
    refine wpAny_bind (wpAny_setField_rec st.zip (by simp) fun h2 hz2 hs2 => ?_)
    replace hz2 : ZAt h2 (b + rows.length + 2) (b + rows.length) (b + rows.length + 1) .ellipsis f1 := hz2
    refine wpAny_bind (wpAny_mono (wpAny_forIn_list _ (fun rest bb s' => ∃ k, rest = ((itsOf b rows.length).zipIdx).drop k ∧ bb = (none, ()) ∧ Half kd s1 b rows i col .ellipsis f1 k s')
      (fun bb s' => bb = (none, ()) ∧ Half kd s1 b rows i col .ellipsis f1 rows.length s') ?turn ?fin _ _ ?start) ?after (fun _ _ x => x))
    case start =>
      obtain ⟨kept, hk1, hk2⟩ := st.to
      refine ⟨0, rfl, rfl, ⟨h2, rfl, hs2.1, Off.but hs2 (by omega), hz2, ?_, ⟨kept, hk1, ?_, by simp⟩, fun j row hj => ?_⟩⟩
      · show h2.get? _ = _
        rw [hs2.2 _ (ne_nat (by omega))]; exact st.ti
      · show h2.get? _ = _
        rw [hs2.2 _ (ne_nat (by omega))]; exact hk2
      · have hj' := (List.getElem?_eq_some_iff.mp hj).1
        obtain ⟨o, ho, r⟩ := st.it j row hj
        exact ⟨o, by rw [hs2.2 _ (ne_nat (by omega))]; exact ho, by simpa using r⟩
    case fin =>
      rintro bb s' ⟨k, e, rfl, hh⟩
      refine ⟨rfl, ?_⟩
      have hk : rows.length ≤ k := by
        have := congrArg List.length e
        rw [List.length_drop, List.length_zipIdx, its_len] at this
        simp at this
        omega
      obtain ⟨h', e1, e2, e3, e4, e5, ⟨kept, e6, e7, e8⟩, e9⟩ := hh.ex
      refine ⟨h', e1, e2, e3, e4, e5, ⟨kept, e6, e7, ?_⟩, fun j row hj => ?_⟩
      · rw [List.take_of_length_le (by omega), List.take_of_length_le (by omega)] at e8 ⊢
        exact e8
      · have := e9 j row hj
        have hj' := (List.getElem?_eq_some_iff.mp hj).1
        rw [if_pos (show j < k by omega)] at this
        rw [if_pos hj']; exact this
    case turn =>
      rintro x rest bb s' ⟨k, e, rfl, hh⟩
      obtain ⟨e1, e2⟩ := cons_drop e
      obtain ⟨rfl, hk⟩ := zipIdx_at e1
      obtain ⟨h', rfl, hsz, hoff, hz', hti', ⟨kept, hk1, hk2, hk3⟩, hits⟩ := hh.ex
      obtain ⟨row, hrow⟩ : ∃ row, rows[k]? = some row := ⟨rows[k], List.getElem?_eq_getElem hk⟩
      obtain ⟨items, v, hI, hv, hcv⟩ := hx k row hrow
      have hit := hits k row hrow
      rw [if_neg (Nat.lt_irrefl _)] at hit
      dsimp only
      refine wpAny_bind (wpAny_onRaise ?_)
      show wpAny _ _ (Builtin.SmallTypes.nextOf (.ref (b + k)) >>= _) _ _ _
      refine wpAny_bind (nextOf_item (s := { s1 with heap := h' }) hit (tuple_off hoff (hr row (List.mem_of_getElem? hrow)) hI) hv fun h3 hit3 hs3 => wpAny_pure ?_)
      dsimp only
      have hto3 : TAt h3 (b + rows.length + 1) kept := by
        show h3.get? _ = _
        rw [hs3.2 _ (ne_nat (by omega))]; exact hk2
      refine wpAny_bind (wpAny_seqItems (s := { s1 with heap := h3 }) hto3 rfl ?_)
      dsimp only
      refine wpAny_bind (wpAny_updateSeq (s := { s1 with heap := h3 }) hto3 rfl ?_ (by rw [List.size_toArray]; have := Pv.rLenQ; exact Nat.le_trans (by omega) (show 1000 ≤ sizeLine by decide)) (by simp only [Array.size_setIfInBounds, List.size_toArray]; exact Nat.le_trans (by omega) (show 1000 ≤ sizeLine + 1 by decide)))
      refine wpAny_bind (wpAny_letGo (wpAny_pure ?_))
      have hs4 : Heap.SameBut (b + rows.length + 1) h3 (h3.update (b + rows.length + 1) (Obj.mapSeq fun x => x.setIfInBounds k v)) := Heap.SameBut.update ..
      generalize hh4 : h3.update (b + rows.length + 1) (Obj.mapSeq fun x => x.setIfInBounds k v) = h4 at hs4
      have hto4 : TAt h4 (b + rows.length + 1) (kept.set k v) := by
        show h4.get? _ = _
        rw [← hh4, Heap.get?_update_self _ hto3 rfl]
        simp [Obj.mapSeq]
      refine ⟨k + 1, e2, rfl, ⟨h4, rfl, ?_, ?_, ?_, ?_, ⟨kept.set k v, ?_, hto4, ?_⟩, fun j row' hj => ?_⟩⟩
      · rw [hs4.1, hs3.1]; exact hsz
      · exact hoff.trans ((Off.but hs3 (by omega)).trans (Off.but hs4 (by omega)))
      · show h4.get? _ = _
        rw [hs4.2 _ (ne_nat (by omega)), hs3.2 _ (ne_nat (by omega))]; exact hz'
      · show h4.get? _ = _
        rw [hs4.2 _ (ne_nat (by omega)), hs3.2 _ (ne_nat (by omega))]; exact hti'
      · rw [List.length_set]; exact hk1
      · rw [List.take_add_one, List.take_add_one, hcv, List.getElem?_set_self (by omega), ← hk3, List.take_set_of_le (Nat.le_refl _)]
      · have hj' := (List.getElem?_eq_some_iff.mp hj).1
        by_cases hjk : j = k
        · subst hjk
          rw [hrow] at hj
          cases hj
          rw [if_pos (Nat.lt_succ_self _)]
          obtain ⟨o, ho, r⟩ := hit3
          exact ⟨o, by rw [hs4.2 _ (ne_nat (by omega))]; exact ho, r⟩
        · obtain ⟨o, ho, r⟩ := hits j row' hj
          refine ⟨o, by rw [hs4.2 _ (ne_nat (by omega)), hs3.2 _ (fun z => hjk (Nat.add_left_cancel z))]; exact ho, ?_⟩
          by_cases hlt' : j < k
          · rw [if_pos hlt'] at r; rw [if_pos (show j < k + 1 by omega)]; exact r
          · rw [if_neg hlt'] at r; rw [if_neg (show ¬ j < k + 1 by omega)]; exact r
    case after =>
      rintro bb s' ⟨rfl, hh⟩
      obtain ⟨h', rfl, hsz, hoff, hz', hti', ⟨kept, hk1, hk2, hk3⟩, hits⟩ := hh.ex
      rw [List.take_of_length_le (by omega), List.take_of_length_le (by omega)] at hk3
      subst hk3
      dsimp only
      refine wpAny_bind (wpAny_seqItems (s := { s1 with heap := h' }) hk2 rfl ?_)
      dsimp only
      refine wpAny_bind (wpAny_newTuple (s := { s1 with heap := h' }) ?_ (by show kept.toArray.toList.length ≤ sizeLine; rw [List.toList_toArray]; exact Nat.le_trans (show kept.length ≤ 1000 by omega) (by decide)))
      dsimp only
      rw [hsz]
      refine wpAny_bind ?_
      unfold Builtin.SmallTypes.ownedTupleHandOut
      have hz6 : ZAt (h'.push { cls := .type "tuple", data := .seq kept.toArray.toList.toArray }) (b + rows.length + 2) (b + rows.length) (b + rows.length + 1) .ellipsis f1 := Heap.get?_push_of_some _ hz'
      refine wpAny_bind (wpAny_setField_rec (s := { s1 with heap := h'.push { cls := .type "tuple", data := .seq kept.toArray.toList.toArray } }) hz6 (by simp) fun h7 hz7 hs7 => ?_)
      replace hz7 : ZAt h7 (b + rows.length + 2) (b + rows.length) (b + rows.length + 1) (rawInt s1.heap.objs.size) f1 := hz7
      refine wpAny_setField_rec (s := { s1 with heap := h7 }) hz7 (by simp) fun h8 hz8 hs8 => ?_
      replace hz8 : ZAt h8 (b + rows.length + 2) (b + rows.length) (b + rows.length + 1) (rawInt s1.heap.objs.size) false := hz8
      have up : ∀ c o, c ≠ b + rows.length + 2 → h'.get? c = some o → h8.get? c = some o := fun c o c1 e => by
        rw [hs8.2 _ c1, hs7.2 _ c1]; exact Heap.get?_push_of_some _ e
      refine wpAny_pure ⟨_, rfl, hQ h8 _ false ⟨hz8, up _ _ (ne_nat (by omega)) hti', ⟨kept, hk1, up _ _ (ne_nat (by omega)) hk2⟩, fun k row hk => ?_⟩ (.inr ⟨_, rfl⟩) ?_ ?_ ?_⟩
      · have hk' := (List.getElem?_eq_some_iff.mp hk).1
        have := hits k row hk
        rw [if_pos hk'] at this
        obtain ⟨o, ho, r⟩ := this
        exact ⟨o, up _ _ (ne_nat (by omega)) ho, r⟩
      · show h8.get? _ = _
        rw [hs8.2 _ (ne_nat (by omega)), hs7.2 _ (ne_nat (by omega)), ← hsz]
        exact Heap.get?_push_size _ rfl
      · rw [hs8.1, hs7.1, Heap.size_push, hsz]
      · intro c o r e
        exact up c o (ne_nat (by omega)) (hoff c o r e)
  · -- it is not
    rw [if_neg Bool.false_ne_true]
    have hti1 : TAt h1 (b + rows.length) (itsOf b rows.length) := by
      show h1.get? _ = _
      rw [hs1.2 _ (ne_nat (by omega))]; exact st.ti
    try dsimp only
    refine wpAny_bind (wpAny_mono (MeetsSeq2.wpAny_forIn_array _ (fun rest bb s' => ∃ k, rest = (itsOf b rows.length).drop k ∧ bb = (none, (col.take k).toArray) ∧ ∃ h', s' = { s with heap := h' } ∧ h'.objs.size = s.heap.objs.size ∧ Off b rows.length s.heap h' ∧
        ZAt h' (b + rows.length + 2) (b + rows.length) (b + rows.length + 1) f0 true ∧ TAt h' (b + rows.length) (itsOf b rows.length) ∧ (∃ kept : List Value, kept.length = rows.length ∧ TAt h' (b + rows.length + 1) kept) ∧ ∀ (j : Nat) (row : Addr), rows[j]? = some row → IterK (kd j) h' (b + j) row (if j < k then i + 1 else i))
      (fun bb s' => bb = (none, col.toArray) ∧ ∃ h', s' = { s with heap := h' } ∧ h'.objs.size = s.heap.objs.size ∧ Off b rows.length s.heap h' ∧ St0 kd h' b rows f0 true (fun _ => i + 1)) ?turn ?fin _ _ ?start) ?after (fun _ _ x => x))
    case start =>
      obtain ⟨kept, hk1, hk2⟩ := st.to
      refine ⟨0, by simp, by simp, h1, rfl, hs1.1, Off.but hs1 (by omega), hz1, hti1, ⟨kept, hk1, ?_⟩, fun j row hj => ?_⟩
      · show h1.get? _ = _
        rw [hs1.2 _ (ne_nat (by omega))]; exact hk2
      · have hj' := (List.getElem?_eq_some_iff.mp hj).1
        obtain ⟨o, ho, r⟩ := st.it j row hj
        exact ⟨o, by rw [hs1.2 _ (ne_nat (by omega))]; exact ho, by simpa using r⟩
    case fin =>
      rintro bb s' ⟨k, e, rfl, h', rfl, e2, e3, e4, e5, e6, e7⟩
      have hk : rows.length ≤ k := by
        have := congrArg List.length e
        rw [List.length_drop, its_len] at this
        simp at this
        omega
      refine ⟨by rw [List.take_of_length_le (by omega)], h', rfl, e2, e3, e4, e5, e6, fun j row hj => ?_⟩
      have := e7 j row hj
      have hj' := (List.getElem?_eq_some_iff.mp hj).1
      rw [if_pos (show j < k by omega)] at this
      exact this
    case turn =>
      rintro x rest bb s' ⟨k, e, rfl, h', rfl, hsz, hoff, hz', hti', hto', hits⟩
      obtain ⟨e1, e2⟩ := cons_drop e
      have hk : k < rows.length := by have := (List.getElem?_eq_some_iff.mp e1).1; rw [its_len] at this; exact this
      rw [its_at hk] at e1
      cases e1
      obtain ⟨row, hrow⟩ : ∃ row, rows[k]? = some row := ⟨rows[k], List.getElem?_eq_getElem hk⟩
      obtain ⟨items, v, hI, hv, hcv⟩ := hx k row hrow
      have hit := hits k row hrow
      rw [if_neg (Nat.lt_irrefl _)] at hit
      dsimp only
      refine wpAny_bind (wpAny_holding ?_)
      show wpAny _ _ (Builtin.SmallTypes.nextOf (.ref (b + k)) >>= _) _ _ _
      refine wpAny_bind (nextOf_item (s := { s with heap := h' }) hit (tuple_off hoff (hr row (List.mem_of_getElem? hrow)) hI) hv fun h3 hit3 hs3 => wpAny_pure ?_)
      dsimp only
      refine wpAny_pure ⟨k + 1, e2, ?_, h3, rfl, ?_, ?_, ?_, ?_, ?_, fun j row' hj => ?_⟩
      · rw [List.take_add_one, hcv]; simp
      · rw [hs3.1]; exact hsz
      · exact hoff.trans (Off.but hs3 (by omega))
      · show h3.get? _ = _
        rw [hs3.2 _ (ne_nat (by omega))]; exact hz'
      · show h3.get? _ = _
        rw [hs3.2 _ (ne_nat (by omega))]; exact hti'
      · obtain ⟨kept, hk1, hk2⟩ := hto'
        exact ⟨kept, hk1, by show h3.get? _ = _; rw [hs3.2 _ (ne_nat (by omega))]; exact hk2⟩
      · have hj' := (List.getElem?_eq_some_iff.mp hj).1
        by_cases hjk : j = k
        · subst hjk
          rw [hrow] at hj
          cases hj
          rw [if_pos (Nat.lt_succ_self _)]
          exact hit3
        · obtain ⟨o, ho, r⟩ := hits j row' hj
          refine ⟨o, by rw [hs3.2 _ (fun z => hjk (Nat.add_left_cancel z))]; exact ho, ?_⟩
          by_cases hlt' : j < k
          · rw [if_pos hlt'] at r; rw [if_pos (show j < k + 1 by omega)]; exact r
          · rw [if_neg hlt'] at r; rw [if_neg (show ¬ j < k + 1 by omega)]; exact r
    case after =>
      rintro bb s' ⟨rfl, h', rfl, hsz, hoff, st'⟩
      dsimp only
      refine wpAny_bind (wpAny_newTuple (s := { s with heap := h' }) ?_ (by show col.toArray.toList.length ≤ sizeLine; rw [List.toList_toArray]; exact Nat.le_trans (show col.length ≤ 1000 by omega) (by decide)))
      dsimp only
      rw [hsz]
      have up : ∀ c o, h'.get? c = some o → (h'.push { cls := .type "tuple", data := .seq col.toArray.toList.toArray }).get? c = some o := fun c o e => Heap.get?_push_of_some _ e
      refine wpAny_pure ⟨_, rfl, hQ _ _ true ⟨up _ _ st'.zip, up _ _ st'.ti, ?_, fun k row hk => ?_⟩ hf ?_ ?_ ?_⟩
      · obtain ⟨kept, hk1, hk2⟩ := st'.to
        exact ⟨kept, hk1, up _ _ hk2⟩
      · obtain ⟨o, ho, r⟩ := st'.it k row hk
        exact ⟨o, up _ _ ho, r⟩
      · rw [← hsz]; exact Heap.get?_push_size _ rfl
      · rw [Heap.size_push, hsz]
      · intro c o r e
        exact up _ _ (hoff c o r e)
end
end ZM

namespace ZM
open PySem
section
variable {prog : Program} {w : World} {A : Around} {E : Value → Shared → Prop} {s : Shared} {kd : Nat → Bool}
theorem its_cons {b n : Nat} (h : 0 < n) : ∃ rest, itsOf b n = .ref (b + 0) :: rest := by
  cases e : itsOf b n with
  | nil => have := its_len b n; rw [e] at this; simp at this; omega
  | cons x rest =>
    have := its_at (b := b) h
    rw [e] at this
    simp at this
    exact ⟨rest, by rw [this]; rfl⟩
set_option maxHeartbeats 4000000 in
theorem next_end {b : Nat} {rows : List Addr} {f0 : Value} {f1 : Bool} {i : Nat} {row : Addr} {items : Array Value} {Q : Fin → Shared → Prop} (hh : A.handled = none) (st : St0 kd s.heap b rows f0 f1 (fun _ => i)) (hf : f0 = .none ∨ ∃ a : Nat, f0 = rawInt a)
    (hr0 : rows[0]? = some row) (hrb : row < b) (hI : SeqK (kd 0) s.heap row items) (hx : items[i]? = none)
    (hE : ∀ h' e, Off b rows.length s.heap h' → (∃ o, h'.get? e = some o ∧ o.cls = .type "StopIteration") → E (.ref e) { s with heap := h' }) :
    wpAny (model prog w) A (Builtin.«zip.__next__» ⟨[.ref (b + rows.length + 2)], []⟩) Q E s := by
  have hn : 0 < rows.length := (List.getElem?_eq_some_iff.mp hr0).1
  obtain ⟨rest, hits⟩ := its_cons (b := b) hn
  show wpAny _ _ (field (.ref (b + rows.length + 2)) 2 >>= _) _ _ _
  refine wpAny_bind (wpAny_field st.zip rfl (x := .bool false) rfl ?_)
  show wpAny _ _ (field (.ref (b + rows.length + 2)) 3 >>= _) _ _ _
  refine wpAny_bind (wpAny_field st.zip rfl (x := .ref (b + rows.length)) rfl ?_)
  refine wpAny_bind (wpAny_seqItems st.ti rfl ?_)
  have hem : (itsOf b rows.length).toArray.isEmpty = false := by rw [hits]; rfl
  dsimp only
  rw [if_neg (by rw [hem]; exact Bool.false_ne_true)]
  refine wpAny_bind (wpAny_mono (own_free st.zip hf) (fun r s1 h1 => ?_) (fun _ _ x => x))
  have hlt : b + rows.length + 2 < s.heap.objs.size := Heap.lt_size st.zip
  have hit := st.it 0 row hr0
  rcases h1 with ⟨rfl, rfl⟩ | ⟨rfl, h1, rfl, hz1, hs1⟩
  · rw [if_pos rfl]
    refine wpAny_bind (wpAny_rule ?_)
    refine wpAny_bind (wpAny_field st.zip rfl (x := .ref (b + rows.length + 1)) rfl ?_)
    refine wpAny_bind (wpAny_setField_rec st.zip (by simp) fun h2 hz2 hs2 => ?_)
    replace hz2 : ZAt h2 (b + rows.length + 2) (b + rows.length) (b + rows.length + 1) .ellipsis f1 := hz2
    have o2 : Off b rows.length s1.heap h2 := Off.but hs2 (by omega)
    have hit2 : IterK (kd 0) h2 (b + 0) row i := by
      obtain ⟨o, ho, r⟩ := hit
      exact ⟨o, by rw [hs2.2 _ (ne_nat (by omega))]; exact ho, r⟩
    refine wpAny_bind ?_
    have hz0 : (itsOf b rows.length).toArray.toList.zipIdx = (.ref (b + 0), 0) :: rest.zipIdx 1 := by rw [hits]; rfl
    rw [hz0, List.forIn_cons]
    refine wpAny_bind (wpAny_bind (wpAny_onRaise ?_))
    show wpAny _ _ (Builtin.SmallTypes.nextOf (.ref (b + 0)) >>= _) _ _ _
    refine wpAny_bind (nextOf_end (s := { s1 with heap := h2 }) hh hit2 (tuple_off o2 hrb hI) hx fun h3 e hs3 he => ?_)
    obtain ⟨oe, hoe, hce⟩ := he
    have hz3 : ZAt h3 (b + rows.length + 2) (b + rows.length) (b + rows.length + 1) .ellipsis f1 := hs3 _ _ (ne_nat (by omega)) hz2
    have hez : e ≠ b + rows.length + 2 := fun x => by subst x; rw [hz3] at hoe; cases hoe; simp at hce
    refine wpAny_setField_rec (s := { s1 with heap := h3 }) hz3 (by simp) fun h4 _ hs4 => hE h4 e (fun c o r x => ?_) ⟨oe, by rw [hs4.2 _ hez]; exact hoe, hce⟩
    rw [hs4.2 _ (ne_nat (by omega))]
    exact hs3 _ _ (ne_nat (by omega)) (o2 c o r x)
  · rw [if_neg Bool.false_ne_true]
    have o1 : Off b rows.length s.heap h1 := Off.but hs1 (by omega)
    have hit1 : IterK (kd 0) h1 (b + 0) row i := by
      obtain ⟨o, ho, r⟩ := hit
      exact ⟨o, by rw [hs1.2 _ (ne_nat (by omega))]; exact ho, r⟩
    try dsimp only
    refine wpAny_bind ?_
    rw [← Array.forIn_toList, List.toList_toArray, hits, List.forIn_cons]
    refine wpAny_bind (wpAny_bind (wpAny_holding ?_))
    show wpAny _ _ (Builtin.SmallTypes.nextOf (.ref (b + 0)) >>= _) _ _ _
    refine wpAny_bind (nextOf_end (s := { s with heap := h1 }) hh hit1 (tuple_off o1 hrb hI) hx fun h3 e hs3 he => hE h3 e (fun c o r x => ?_) he)
    exact hs3 _ _ (ne_nat (by omega)) (o1 c o r x)
theorem pyNext_item {b : Nat} {rows : List Addr} {f0 : Value} {f1 : Bool} {i : Nat} {col : List Value} {Q : Option Value → Shared → Prop} (st : St0 kd s.heap b rows f0 f1 (fun _ => i)) (hf : f0 = .none ∨ ∃ a : Nat, f0 = rawInt a) (hn : 0 < rows.length) (hn2 : rows.length ≤ 1000)
    (hr : ∀ row ∈ rows, row < b) (hc : col.length = rows.length) (hx : ∀ (k : Nat) (row : Addr), rows[k]? = some row → ∃ (items : Array Value) (x : Value), SeqK (kd k) s.heap row items ∧ items[i]? = some x ∧ col[k]? = some x)
    (hQ : ∀ h' f0' f1', St0 kd h' b rows f0' f1' (fun _ => i + 1) → (f0' = .none ∨ ∃ a : Nat, f0' = rawInt a) → TAt h' s.heap.objs.size col → h'.objs.size = s.heap.objs.size + 1 → Off b rows.length s.heap h' → Q (some (.ref s.heap.objs.size)) { s with heap := h' }) :
    wpAny (model prog w) A (pyNext (.ref (b + rows.length + 2))) Q E s := by
  have hT : s.TypeIs (.ref (b + rows.length + 2)) "zip" := ⟨_, st.zip, rfl⟩
  unfold pyNext
  exact wpAny_bind (wpAny_attempt (wpAny_callSpecial?_slot (name := Str.ofString "__next__") hT F.slot_zip_next
    (wpAny_call_entry F.slot_zip_next hT F.entry_zip_next
      (next_item st hf hn hn2 hr hc hx fun h' a b' a1 a2 a3 a4 a5 => wpAny_pure (hQ h' a b' a1 a2 a3 a4 a5)) (F.args_zip_next_1 _))))
theorem pyNext_end {b : Nat} {rows : List Addr} {f0 : Value} {f1 : Bool} {i : Nat} {row : Addr} {items : Array Value} {Q : Option Value → Shared → Prop} (hh : A.handled = none) (st : St0 kd s.heap b rows f0 f1 (fun _ => i)) (hf : f0 = .none ∨ ∃ a : Nat, f0 = rawInt a)
    (hr0 : rows[0]? = some row) (hrb : row < b) (hI : SeqK (kd 0) s.heap row items) (hx : items[i]? = none) (hQ : ∀ h', Off b rows.length s.heap h' → Q none { s with heap := h' }) :
    wpAny (model prog w) A (pyNext (.ref (b + rows.length + 2))) Q E s := by
  have hT : s.TypeIs (.ref (b + rows.length + 2)) "zip" := ⟨_, st.zip, rfl⟩
  unfold pyNext
  refine wpAny_bind (wpAny_attempt (wpAny_callSpecial?_slot (name := Str.ofString "__next__") hT F.slot_zip_next
    (wpAny_call_entry F.slot_zip_next hT F.entry_zip_next (next_end hh st hf hr0 hrb hI hx fun h' e hk he => ?_) (F.args_zip_next_1 _))))
  obtain ⟨o, ho, hc⟩ := he
  refine wpAny_bind (wpAny_isInstance (T := "StopIteration") (b := true) ⟨o, ho, hc⟩ isSubtype_stop ?_)
  exact wpAny_pure (hQ _ hk)
theorem pyIter_zip {z TI TO : Addr} {f0 : Value} {f1 : Bool} {Q : Value → Shared → Prop} (hz : ZAt s.heap z TI TO f0 f1) (h : Q (.ref z) s) : wpAny (model prog w) A (pyIter (.ref z)) Q E s := by
  have hT : s.TypeIs (.ref z) "zip" := ⟨_, hz, rfl⟩
  refine wpAny_pyIter_slot hT F.slot_zip_iter (wpAny_call_entry F.slot_zip_iter hT F.entry_zip_iter ?_ (F.args_zip_iter_1 _))
  show wpAny _ _ (ret (.ref z)) _ _ s
  exact wpAny_pure ⟨_, rfl, "zip", _, hT, F.slot_zip_next.lookup, h⟩
end
end ZM

set_option maxHeartbeats 1000000
/-! zip(*rows) over tuples, a name as the target -/
namespace ZS
open PySem
abbrev ZAt (h : Heap) (z TI TO : Addr) (f0 : Value) (f1 : Bool) : Prop :=
  h.get? z = some { cls := .type "zip", dict := none, data := .fields #[f0, .bool f1, .bool false, .ref TI, .ref TO], slots := #[] }
abbrev TAt (h : Heap) (T : Addr) (xs : List Value) : Prop := h.get? T = some { cls := .type "tuple", data := .seq xs.toArray }
def itsOf (b n : Nat) : List Value := (List.range n).map fun k => .ref (b + k)
theorem its_len (b n : Nat) : (itsOf b n).length = n := by simp [itsOf]
theorem its_at {b n k : Nat} (h : k < n) : (itsOf b n)[k]? = some (.ref (b + k)) := by simp [itsOf, h]
/-- where the zip's own objects stand: the iterators from b on, then the tuple of them, the tuple it keeps, the zip -/
structure St0 (h : Heap) (b : Nat) (rows : List Addr) (f0 : Value) (f1 : Bool) (at_ : Nat → Nat) : Prop where
  zip : ZAt h (b + rows.length + 2) (b + rows.length) (b + rows.length + 1) f0 f1
  ti : TAt h (b + rows.length) (itsOf b rows.length)
  to : ∃ kept : List Value, kept.length = rows.length ∧ TAt h (b + rows.length + 1) kept
  it : ∀ (k : Nat) (row : Addr), rows[k]? = some row → h.IsTupleIter (b + k) row (at_ k)
/-- what is not the zip's own stays -/
def Off (b n : Nat) (h h' : Heap) : Prop := ∀ c o, (c < b ∨ b + n + 2 < c) → h.get? c = some o → h'.get? c = some o
theorem Off.refl (b n : Nat) (h : Heap) : Off b n h h := fun _ _ _ e => e
theorem Off.trans {b n : Nat} {h h1 h2 : Heap} (x : Off b n h h1) (y : Off b n h1 h2) : Off b n h h2 := fun c o r e => y c o r (x c o r e)
theorem Off.but {b n c0 : Nat} {h h' : Heap} (e : Heap.SameBut c0 h h') (hc : b ≤ c0 ∧ c0 ≤ b + n + 2) : Off b n h h' := fun c o r x => by
  rw [e.2 c (fun z => by subst z; omega)]; exact x
section
variable {prog : Program} {w : World} {A : Around} {E : Value → Shared → Prop} {s : Shared}
theorem alive {a : Addr} {Q : Option Obj → Shared → Prop} (h : Q (s.heap.get? a) s) : wpAny (model prog w) A (loadIfAlive a) Q E s := by
  intro Γ p hΓ
  unfold loadIfAlive
  rw [Sem.wp_loadIfAlive]
  exact wpAny_pure h Γ p hΓ
theorem nextOf_item {it l : Addr} {i : Nat} {items} {x : Value} {Q : Value → Shared → Prop} (hit : s.heap.IsTupleIter it l i) (hl : s.heap.IsTuple l items) (hx : items[i]? = some x)
    (hQ : ∀ h', h'.IsTupleIter it l (i + 1) → Heap.SameBut it s.heap h' → Q x { s with heap := h' }) : wpAny (model prog w) A (Builtin.SmallTypes.nextOf (.ref it)) Q E s := RZ.nextOf_tuple_item hit hl hx hQ
/-- the draws, one iterator after another, into the tuple that the zip keeps -/
structure Half (s : Shared) (b : Nat) (rows : List Addr) (i : Nat) (col : List Value) (f0 : Value) (f1 : Bool) (k : Nat) (s' : Shared) : Prop where
  ex : ∃ h', s' = { s with heap := h' } ∧ h'.objs.size = s.heap.objs.size ∧ Off b rows.length s.heap h' ∧ ZAt h' (b + rows.length + 2) (b + rows.length) (b + rows.length + 1) f0 f1 ∧ TAt h' (b + rows.length) (itsOf b rows.length) ∧
    (∃ kept : List Value, kept.length = rows.length ∧ TAt h' (b + rows.length + 1) kept ∧ kept.take k = col.take k) ∧ ∀ (j : Nat) (row : Addr), rows[j]? = some row → h'.IsTupleIter (b + j) row (if j < k then i + 1 else i)
theorem ne_nat {a b : Nat} (h : ¬ (a = b)) : (show Addr from a) ≠ (show Addr from b) := h
theorem tuple_off {b n : Nat} {h h' : Heap} {l : Addr} {items : Array Value} (x : Off b n h h') (hl : l < b) (ht : h.IsTuple l items) : h'.IsTuple l items := by
  obtain ⟨o, ho, r⟩ := ht
  exact ⟨o, x l o (.inl hl) ho, r⟩
end
end ZS

namespace ZS
open PySem
section
variable {prog : Program} {w : World} {A : Around} {E : Value → Shared → Prop} {s : Shared}
theorem own_free {z TI TO : Addr} {f0 : Value} {f1 : Bool} (hz : ZAt s.heap z TI TO f0 f1) (hf : f0 = .none ∨ ∃ a : Nat, f0 = rawInt a) :
    wpAny (model prog w) A (Builtin.SmallTypes.ownedTupleIsFree (.ref z)) (fun r s' => (r = true ∧ s' = s) ∨ (r = false ∧ ∃ h', s' = { s with heap := h' } ∧ ZAt h' z TI TO f0 true ∧ Heap.SameBut z s.heap h')) E s := by
  unfold Builtin.SmallTypes.ownedTupleIsFree
  rcases hf with rfl | ⟨a, rfl⟩
  · exact wpAny_bind (wpAny_field hz rfl (x := .none) rfl (wpAny_pure (.inl ⟨rfl, rfl⟩)))
  · refine wpAny_bind (wpAny_field hz rfl (x := rawInt a) rfl ?_)
    show wpAny _ _ (loadIfAlive (Int.toNat a) >>= _) _ _ _
    refine wpAny_bind (alive ?_)
    rw [Int.toNat_natCast]
    cases e : s.heap.get? a with
    | none => exact wpAny_pure (.inl ⟨rfl, rfl⟩)
    | some o =>
      show wpAny _ _ (field (.ref z) 1 >>= _) _ _ _
      refine wpAny_bind (wpAny_field hz rfl (x := .bool f1) rfl ?_)
      cases f1 with
      | true => exact wpAny_pure (.inr ⟨rfl, s.heap, rfl, hz, ⟨rfl, fun _ _ => rfl⟩⟩)
      | false =>
        show wpAny _ _ (setField (.ref z) 1 (.bool true) >>= _) _ _ _
        exact wpAny_bind (wpAny_setField_rec hz (by simp) fun h' hz' hs' => wpAny_pure (.inr ⟨rfl, h', rfl, hz', hs'⟩))
theorem cons_drop {α : Type} {x : α} {rest L : List α} {k : Nat} (e : x :: rest = L.drop k) : L[k]? = some x ∧ rest = L.drop (k + 1) := by
  constructor
  · have := List.getElem?_drop (xs := L) (i := k) (j := 0)
    rw [← e] at this
    simpa using this.symm
  · rw [← List.drop_drop, ← e]; rfl
theorem zipIdx_at {b n k : Nat} {x : Value × Nat} (h : ((itsOf b n).zipIdx)[k]? = some x) : x = (.ref (b + k), k) ∧ k < n := by
  rw [List.getElem?_zipIdx] at h
  cases e : (itsOf b n)[k]? with
  | none => rw [e] at h; simp at h
  | some v =>
    have hk : k < n := by have := (List.getElem?_eq_some_iff.mp e).1; rw [its_len] at this; exact this
    rw [its_at hk] at e
    cases e
    rw [its_at hk] at h
    simp at h
    exact ⟨h.symm, hk⟩
set_option maxHeartbeats 4000000 in
theorem next_item {b : Nat} {rows : List Addr} {f0 : Value} {f1 : Bool} {i : Nat} {col : List Value} {Q : Value → Shared → Prop} (st : St0 s.heap b rows f0 f1 (fun _ => i)) (hf : f0 = .none ∨ ∃ a : Nat, f0 = rawInt a) (hn : 0 < rows.length) (hn2 : rows.length ≤ 1000)
    (hr : ∀ row ∈ rows, row < b) (hc : col.length = rows.length) (hx : ∀ (k : Nat) (row : Addr), rows[k]? = some row → ∃ (items : Array Value) (x : Value), s.heap.IsTuple row items ∧ items[i]? = some x ∧ col[k]? = some x)
    (hQ : ∀ h' f0' f1', St0 h' b rows f0' f1' (fun _ => i + 1) → (f0' = .none ∨ ∃ a : Nat, f0' = rawInt a) → TAt h' s.heap.objs.size col → h'.objs.size = s.heap.objs.size + 1 → Off b rows.length s.heap h' → Q (.ref s.heap.objs.size) { s with heap := h' }) :
    wpAny (model prog w) A (Builtin.«zip.__next__» ⟨[.ref (b + rows.length + 2)], []⟩) (fun fin s' => ∃ v, fin = .done (.ret v) ∧ Q v s') E s := by
  show wpAny _ _ (field (.ref (b + rows.length + 2)) 2 >>= _) _ _ _
  refine wpAny_bind (wpAny_field st.zip rfl (x := .bool false) rfl ?_)
  show wpAny _ _ (field (.ref (b + rows.length + 2)) 3 >>= _) _ _ _
  refine wpAny_bind (wpAny_field st.zip rfl (x := .ref (b + rows.length)) rfl ?_)
  refine wpAny_bind (wpAny_seqItems st.ti rfl ?_)
  have hem : (itsOf b rows.length).toArray.isEmpty = false := by
    have := its_len b rows.length
    cases e : itsOf b rows.length with
    | nil => rw [e] at this; simp at this; omega
    | cons _ _ => rfl
  dsimp only
  rw [if_neg (by rw [hem]; exact Bool.false_ne_true)]
  refine wpAny_bind (wpAny_mono (own_free st.zip hf) (fun r s1 h1 => ?_) (fun _ _ x => x))
  have hlt : b + rows.length + 2 < s.heap.objs.size := Heap.lt_size st.zip
  rcases h1 with ⟨rfl, rfl⟩ | ⟨rfl, h1, rfl, hz1, hs1⟩
  · -- the tuple that it keeps is free
    rw [if_pos rfl]
    refine wpAny_bind (wpAny_rule ?_)
    refine wpAny_bind (wpAny_field st.zip rfl (x := .ref (b + rows.length + 1)) rfl ?_)
    refine wpAny_bind (wpAny_setField_rec st.zip (by simp) fun h2 hz2 hs2 => ?_)
    replace hz2 : ZAt h2 (b + rows.length + 2) (b + rows.length) (b + rows.length + 1) .ellipsis f1 := hz2
    refine wpAny_bind (wpAny_mono (wpAny_forIn_list _ (fun rest bb s' => ∃ k, rest = ((itsOf b rows.length).zipIdx).drop k ∧ bb = (none, ()) ∧ Half s1 b rows i col .ellipsis f1 k s')
      (fun bb s' => bb = (none, ()) ∧ Half s1 b rows i col .ellipsis f1 rows.length s') ?turn ?fin _ _ ?start) ?after (fun _ _ x => x))
    case start =>
      obtain ⟨kept, hk1, hk2⟩ := st.to
      refine ⟨0, rfl, rfl, ⟨h2, rfl, hs2.1, Off.but hs2 (by omega), hz2, ?_, ⟨kept, hk1, ?_, by simp⟩, fun j row hj => ?_⟩⟩
      · show h2.get? _ = _
        rw [hs2.2 _ (ne_nat (by omega))]; exact st.ti
      · show h2.get? _ = _
        rw [hs2.2 _ (ne_nat (by omega))]; exact hk2
      · have hj' := (List.getElem?_eq_some_iff.mp hj).1
        obtain ⟨o, ho, r⟩ := st.it j row hj
        exact ⟨o, by rw [hs2.2 _ (ne_nat (by omega))]; exact ho, by simpa using r⟩
    case fin =>
      rintro bb s' ⟨k, e, rfl, hh⟩
      refine ⟨rfl, ?_⟩
      have hk : rows.length ≤ k := by
        have := congrArg List.length e
        rw [List.length_drop, List.length_zipIdx, its_len] at this
        simp at this
        omega
      obtain ⟨h', e1, e2, e3, e4, e5, ⟨kept, e6, e7, e8⟩, e9⟩ := hh.ex
      refine ⟨h', e1, e2, e3, e4, e5, ⟨kept, e6, e7, ?_⟩, fun j row hj => ?_⟩
      · rw [List.take_of_length_le (by omega), List.take_of_length_le (by omega)] at e8 ⊢
        exact e8
      · have := e9 j row hj
        have hj' := (List.getElem?_eq_some_iff.mp hj).1
        rw [if_pos (show j < k by omega)] at this
        rw [if_pos hj']; exact this
    case turn =>
      rintro x rest bb s' ⟨k, e, rfl, hh⟩
      obtain ⟨e1, e2⟩ := cons_drop e
      obtain ⟨rfl, hk⟩ := zipIdx_at e1
      obtain ⟨h', rfl, hsz, hoff, hz', hti', ⟨kept, hk1, hk2, hk3⟩, hits⟩ := hh.ex
      obtain ⟨row, hrow⟩ : ∃ row, rows[k]? = some row := ⟨rows[k], List.getElem?_eq_getElem hk⟩
      obtain ⟨items, v, hI, hv, hcv⟩ := hx k row hrow
      have hit := hits k row hrow
      rw [if_neg (Nat.lt_irrefl _)] at hit
      dsimp only
      refine wpAny_bind (wpAny_onRaise ?_)
      show wpAny _ _ (Builtin.SmallTypes.nextOf (.ref (b + k)) >>= _) _ _ _
      refine wpAny_bind (nextOf_item (s := { s1 with heap := h' }) hit (tuple_off hoff (hr row (List.mem_of_getElem? hrow)) hI) hv fun h3 hit3 hs3 => wpAny_pure ?_)
      dsimp only
      have hto3 : TAt h3 (b + rows.length + 1) kept := by
        show h3.get? _ = _
        rw [hs3.2 _ (ne_nat (by omega))]; exact hk2
      refine wpAny_bind (wpAny_seqItems (s := { s1 with heap := h3 }) hto3 rfl ?_)
      dsimp only
      refine wpAny_bind (wpAny_updateSeq (s := { s1 with heap := h3 }) hto3 rfl ?_ (by rw [List.size_toArray]; have := Pv.rLenQ; exact Nat.le_trans (by omega) (show 1000 ≤ sizeLine by decide)) (by simp only [Array.size_setIfInBounds, List.size_toArray]; exact Nat.le_trans (by omega) (show 1000 ≤ sizeLine + 1 by decide)))
      refine wpAny_bind (wpAny_letGo (wpAny_pure ?_))
      have hs4 : Heap.SameBut (b + rows.length + 1) h3 (h3.update (b + rows.length + 1) (Obj.mapSeq fun x => x.setIfInBounds k v)) := Heap.SameBut.update ..
      generalize hh4 : h3.update (b + rows.length + 1) (Obj.mapSeq fun x => x.setIfInBounds k v) = h4 at hs4
      have hto4 : TAt h4 (b + rows.length + 1) (kept.set k v) := by
        show h4.get? _ = _
        rw [← hh4, Heap.get?_update_self _ hto3 rfl]
        simp [Obj.mapSeq]
      refine ⟨k + 1, e2, rfl, ⟨h4, rfl, ?_, ?_, ?_, ?_, ⟨kept.set k v, ?_, hto4, ?_⟩, fun j row' hj => ?_⟩⟩
      · rw [hs4.1, hs3.1]; exact hsz
      · exact hoff.trans ((Off.but hs3 (by omega)).trans (Off.but hs4 (by omega)))
      · show h4.get? _ = _
        rw [hs4.2 _ (ne_nat (by omega)), hs3.2 _ (ne_nat (by omega))]; exact hz'
      · show h4.get? _ = _
        rw [hs4.2 _ (ne_nat (by omega)), hs3.2 _ (ne_nat (by omega))]; exact hti'
      · rw [List.length_set]; exact hk1
      · rw [List.take_add_one, List.take_add_one, hcv, List.getElem?_set_self (by omega), ← hk3, List.take_set_of_le (Nat.le_refl _)]
      · have hj' := (List.getElem?_eq_some_iff.mp hj).1
        by_cases hjk : j = k
        · subst hjk
          rw [hrow] at hj
          cases hj
          rw [if_pos (Nat.lt_succ_self _)]
          obtain ⟨o, ho, r⟩ := hit3
          exact ⟨o, by rw [hs4.2 _ (ne_nat (by omega))]; exact ho, r⟩
        · obtain ⟨o, ho, r⟩ := hits j row' hj
          refine ⟨o, by rw [hs4.2 _ (ne_nat (by omega)), hs3.2 _ (fun z => hjk (Nat.add_left_cancel z))]; exact ho, ?_⟩
          by_cases hlt' : j < k
          · rw [if_pos hlt'] at r; rw [if_pos (show j < k + 1 by omega)]; exact r
          · rw [if_neg hlt'] at r; rw [if_neg (show ¬ j < k + 1 by omega)]; exact r
    case after =>
      rintro bb s' ⟨rfl, hh⟩
      obtain ⟨h', rfl, hsz, hoff, hz', hti', ⟨kept, hk1, hk2, hk3⟩, hits⟩ := hh.ex
      rw [List.take_of_length_le (by omega), List.take_of_length_le (by omega)] at hk3
      subst hk3
      dsimp only
      refine wpAny_bind (wpAny_seqItems (s := { s1 with heap := h' }) hk2 rfl ?_)
      dsimp only
      refine wpAny_bind (wpAny_newTuple (s := { s1 with heap := h' }) ?_ (by show kept.toArray.toList.length ≤ sizeLine; rw [List.toList_toArray]; exact Nat.le_trans (show kept.length ≤ 1000 by omega) (by decide)))
      dsimp only
      rw [hsz]
      refine wpAny_bind ?_
      unfold Builtin.SmallTypes.ownedTupleHandOut
      have hz6 : ZAt (h'.push { cls := .type "tuple", data := .seq kept.toArray.toList.toArray }) (b + rows.length + 2) (b + rows.length) (b + rows.length + 1) .ellipsis f1 := Heap.get?_push_of_some _ hz'
      refine wpAny_bind (wpAny_setField_rec (s := { s1 with heap := h'.push { cls := .type "tuple", data := .seq kept.toArray.toList.toArray } }) hz6 (by simp) fun h7 hz7 hs7 => ?_)
      replace hz7 : ZAt h7 (b + rows.length + 2) (b + rows.length) (b + rows.length + 1) (rawInt s1.heap.objs.size) f1 := hz7
      refine wpAny_setField_rec (s := { s1 with heap := h7 }) hz7 (by simp) fun h8 hz8 hs8 => ?_
      replace hz8 : ZAt h8 (b + rows.length + 2) (b + rows.length) (b + rows.length + 1) (rawInt s1.heap.objs.size) false := hz8
      have up : ∀ c o, c ≠ b + rows.length + 2 → h'.get? c = some o → h8.get? c = some o := fun c o c1 e => by
        rw [hs8.2 _ c1, hs7.2 _ c1]; exact Heap.get?_push_of_some _ e
      refine wpAny_pure ⟨_, rfl, hQ h8 _ false ⟨hz8, up _ _ (ne_nat (by omega)) hti', ⟨kept, hk1, up _ _ (ne_nat (by omega)) hk2⟩, fun k row hk => ?_⟩ (.inr ⟨_, rfl⟩) ?_ ?_ ?_⟩
      · have hk' := (List.getElem?_eq_some_iff.mp hk).1
        have := hits k row hk
        rw [if_pos hk'] at this
        obtain ⟨o, ho, r⟩ := this
        exact ⟨o, up _ _ (ne_nat (by omega)) ho, r⟩
      · show h8.get? _ = _
        rw [hs8.2 _ (ne_nat (by omega)), hs7.2 _ (ne_nat (by omega)), ← hsz]
        exact Heap.get?_push_size _ rfl
      · rw [hs8.1, hs7.1, Heap.size_push, hsz]
      · intro c o r e
        exact up c o (ne_nat (by omega)) (hoff c o r e)
  · -- it is not
    rw [if_neg Bool.false_ne_true]
    have hti1 : TAt h1 (b + rows.length) (itsOf b rows.length) := by
      show h1.get? _ = _
      rw [hs1.2 _ (ne_nat (by omega))]; exact st.ti
    try dsimp only
    refine wpAny_bind (wpAny_mono (MeetsSeq2.wpAny_forIn_array _ (fun rest bb s' => ∃ k, rest = (itsOf b rows.length).drop k ∧ bb = (none, (col.take k).toArray) ∧ ∃ h', s' = { s with heap := h' } ∧ h'.objs.size = s.heap.objs.size ∧ Off b rows.length s.heap h' ∧
        ZAt h' (b + rows.length + 2) (b + rows.length) (b + rows.length + 1) f0 true ∧ TAt h' (b + rows.length) (itsOf b rows.length) ∧ (∃ kept : List Value, kept.length = rows.length ∧ TAt h' (b + rows.length + 1) kept) ∧ ∀ (j : Nat) (row : Addr), rows[j]? = some row → h'.IsTupleIter (b + j) row (if j < k then i + 1 else i))
      (fun bb s' => bb = (none, col.toArray) ∧ ∃ h', s' = { s with heap := h' } ∧ h'.objs.size = s.heap.objs.size ∧ Off b rows.length s.heap h' ∧ St0 h' b rows f0 true (fun _ => i + 1)) ?turn ?fin _ _ ?start) ?after (fun _ _ x => x))
    case start =>
      obtain ⟨kept, hk1, hk2⟩ := st.to
      refine ⟨0, by simp, by simp, h1, rfl, hs1.1, Off.but hs1 (by omega), hz1, hti1, ⟨kept, hk1, ?_⟩, fun j row hj => ?_⟩
      · show h1.get? _ = _
        rw [hs1.2 _ (ne_nat (by omega))]; exact hk2
      · have hj' := (List.getElem?_eq_some_iff.mp hj).1
        obtain ⟨o, ho, r⟩ := st.it j row hj
        exact ⟨o, by rw [hs1.2 _ (ne_nat (by omega))]; exact ho, by simpa using r⟩
    case fin =>
      rintro bb s' ⟨k, e, rfl, h', rfl, e2, e3, e4, e5, e6, e7⟩
      have hk : rows.length ≤ k := by
        have := congrArg List.length e
        rw [List.length_drop, its_len] at this
        simp at this
        omega
      refine ⟨by rw [List.take_of_length_le (by omega)], h', rfl, e2, e3, e4, e5, e6, fun j row hj => ?_⟩
      have := e7 j row hj
      have hj' := (List.getElem?_eq_some_iff.mp hj).1
      rw [if_pos (show j < k by omega)] at this
      exact this
    case turn =>
      rintro x rest bb s' ⟨k, e, rfl, h', rfl, hsz, hoff, hz', hti', hto', hits⟩
      obtain ⟨e1, e2⟩ := cons_drop e
      have hk : k < rows.length := by have := (List.getElem?_eq_some_iff.mp e1).1; rw [its_len] at this; exact this
      rw [its_at hk] at e1
      cases e1
      obtain ⟨row, hrow⟩ : ∃ row, rows[k]? = some row := ⟨rows[k], List.getElem?_eq_getElem hk⟩
      obtain ⟨items, v, hI, hv, hcv⟩ := hx k row hrow
      have hit := hits k row hrow
      rw [if_neg (Nat.lt_irrefl _)] at hit
      dsimp only
      refine wpAny_bind (wpAny_holding ?_)
      show wpAny _ _ (Builtin.SmallTypes.nextOf (.ref (b + k)) >>= _) _ _ _
      refine wpAny_bind (nextOf_item (s := { s with heap := h' }) hit (tuple_off hoff (hr row (List.mem_of_getElem? hrow)) hI) hv fun h3 hit3 hs3 => wpAny_pure ?_)
      dsimp only
      refine wpAny_pure ⟨k + 1, e2, ?_, h3, rfl, ?_, ?_, ?_, ?_, ?_, fun j row' hj => ?_⟩
      · rw [List.take_add_one, hcv]; simp
      · rw [hs3.1]; exact hsz
      · exact hoff.trans (Off.but hs3 (by omega))
      · show h3.get? _ = _
        rw [hs3.2 _ (ne_nat (by omega))]; exact hz'
      · show h3.get? _ = _
        rw [hs3.2 _ (ne_nat (by omega))]; exact hti'
      · obtain ⟨kept, hk1, hk2⟩ := hto'
        exact ⟨kept, hk1, by show h3.get? _ = _; rw [hs3.2 _ (ne_nat (by omega))]; exact hk2⟩
      · have hj' := (List.getElem?_eq_some_iff.mp hj).1
        by_cases hjk : j = k
        · subst hjk
          rw [hrow] at hj
          cases hj
          rw [if_pos (Nat.lt_succ_self _)]
          exact hit3
        · obtain ⟨o, ho, r⟩ := hits j row' hj
          refine ⟨o, by rw [hs3.2 _ (fun z => hjk (Nat.add_left_cancel z))]; exact ho, ?_⟩
          by_cases hlt' : j < k
          · rw [if_pos hlt'] at r; rw [if_pos (show j < k + 1 by omega)]; exact r
          · rw [if_neg hlt'] at r; rw [if_neg (show ¬ j < k + 1 by omega)]; exact r
    case after =>
      rintro bb s' ⟨rfl, h', rfl, hsz, hoff, st'⟩
      dsimp only
      refine wpAny_bind (wpAny_newTuple (s := { s with heap := h' }) ?_ (by show col.toArray.toList.length ≤ sizeLine; rw [List.toList_toArray]; exact Nat.le_trans (show col.length ≤ 1000 by omega) (by decide)))
      dsimp only
      rw [hsz]
      have up : ∀ c o, h'.get? c = some o → (h'.push { cls := .type "tuple", data := .seq col.toArray.toList.toArray }).get? c = some o := fun c o e => Heap.get?_push_of_some _ e
      refine wpAny_pure ⟨_, rfl, hQ _ _ true ⟨up _ _ st'.zip, up _ _ st'.ti, ?_, fun k row hk => ?_⟩ hf ?_ ?_ ?_⟩
      · obtain ⟨kept, hk1, hk2⟩ := st'.to
        exact ⟨kept, hk1, up _ _ hk2⟩
      · obtain ⟨o, ho, r⟩ := st'.it k row hk
        exact ⟨o, up _ _ ho, r⟩
      · rw [← hsz]; exact Heap.get?_push_size _ rfl
      · rw [Heap.size_push, hsz]
      · intro c o r e
        exact up _ _ (hoff c o r e)
end
end ZS

namespace ZS
open PySem
section
variable {prog : Program} {w : World} {A : Around} {E : Value → Shared → Prop} {s : Shared}
theorem its_cons {b n : Nat} (h : 0 < n) : ∃ rest, itsOf b n = .ref (b + 0) :: rest := by
  cases e : itsOf b n with
  | nil => have := its_len b n; rw [e] at this; simp at this; omega
  | cons x rest =>
    have := its_at (b := b) h
    rw [e] at this
    simp at this
    exact ⟨rest, by rw [this]; rfl⟩
set_option maxHeartbeats 4000000 in
theorem next_end {b : Nat} {rows : List Addr} {f0 : Value} {f1 : Bool} {i : Nat} {row : Addr} {items : Array Value} {Q : Fin → Shared → Prop} (hh : A.handled = none) (st : St0 s.heap b rows f0 f1 (fun _ => i)) (hf : f0 = .none ∨ ∃ a : Nat, f0 = rawInt a)
    (hr0 : rows[0]? = some row) (hrb : row < b) (hI : s.heap.IsTuple row items) (hx : items[i]? = none)
    (hE : ∀ h' e, Off b rows.length s.heap h' → (∃ o, h'.get? e = some o ∧ o.cls = .type "StopIteration") → E (.ref e) { s with heap := h' }) :
    wpAny (model prog w) A (Builtin.«zip.__next__» ⟨[.ref (b + rows.length + 2)], []⟩) Q E s := by
  have hn : 0 < rows.length := (List.getElem?_eq_some_iff.mp hr0).1
  obtain ⟨rest, hits⟩ := its_cons (b := b) hn
  show wpAny _ _ (field (.ref (b + rows.length + 2)) 2 >>= _) _ _ _
  refine wpAny_bind (wpAny_field st.zip rfl (x := .bool false) rfl ?_)
  show wpAny _ _ (field (.ref (b + rows.length + 2)) 3 >>= _) _ _ _
  refine wpAny_bind (wpAny_field st.zip rfl (x := .ref (b + rows.length)) rfl ?_)
  refine wpAny_bind (wpAny_seqItems st.ti rfl ?_)
  have hem : (itsOf b rows.length).toArray.isEmpty = false := by rw [hits]; rfl
  dsimp only
  rw [if_neg (by rw [hem]; exact Bool.false_ne_true)]
  refine wpAny_bind (wpAny_mono (own_free st.zip hf) (fun r s1 h1 => ?_) (fun _ _ x => x))
  have hlt : b + rows.length + 2 < s.heap.objs.size := Heap.lt_size st.zip
  have hit := st.it 0 row hr0
  rcases h1 with ⟨rfl, rfl⟩ | ⟨rfl, h1, rfl, hz1, hs1⟩
  · rw [if_pos rfl]
    refine wpAny_bind (wpAny_rule ?_)
    refine wpAny_bind (wpAny_field st.zip rfl (x := .ref (b + rows.length + 1)) rfl ?_)
    refine wpAny_bind (wpAny_setField_rec st.zip (by simp) fun h2 hz2 hs2 => ?_)
    replace hz2 : ZAt h2 (b + rows.length + 2) (b + rows.length) (b + rows.length + 1) .ellipsis f1 := hz2
    have o2 : Off b rows.length s1.heap h2 := Off.but hs2 (by omega)
    have hit2 : h2.IsTupleIter (b + 0) row i := by
      obtain ⟨o, ho, r⟩ := hit
      exact ⟨o, by rw [hs2.2 _ (ne_nat (by omega))]; exact ho, r⟩
    refine wpAny_bind ?_
    have hz0 : (itsOf b rows.length).toArray.toList.zipIdx = (.ref (b + 0), 0) :: rest.zipIdx 1 := by rw [hits]; rfl
    rw [hz0, List.forIn_cons]
    refine wpAny_bind (wpAny_bind (wpAny_onRaise ?_))
    show wpAny _ _ (Builtin.SmallTypes.nextOf (.ref (b + 0)) >>= _) _ _ _
    refine wpAny_bind (RZ.nextOf_tuple_end (s := { s1 with heap := h2 }) hh hit2 (tuple_off o2 hrb hI) hx fun h3 e hs3 he => ?_)
    obtain ⟨oe, hoe, hce⟩ := he
    have hz3 : ZAt h3 (b + rows.length + 2) (b + rows.length) (b + rows.length + 1) .ellipsis f1 := hs3 _ _ (ne_nat (by omega)) hz2
    have hez : e ≠ b + rows.length + 2 := fun x => by subst x; rw [hz3] at hoe; cases hoe; simp at hce
    refine wpAny_setField_rec (s := { s1 with heap := h3 }) hz3 (by simp) fun h4 _ hs4 => hE h4 e (fun c o r x => ?_) ⟨oe, by rw [hs4.2 _ hez]; exact hoe, hce⟩
    rw [hs4.2 _ (ne_nat (by omega))]
    exact hs3 _ _ (ne_nat (by omega)) (o2 c o r x)
  · rw [if_neg Bool.false_ne_true]
    have o1 : Off b rows.length s.heap h1 := Off.but hs1 (by omega)
    have hit1 : h1.IsTupleIter (b + 0) row i := by
      obtain ⟨o, ho, r⟩ := hit
      exact ⟨o, by rw [hs1.2 _ (ne_nat (by omega))]; exact ho, r⟩
    try dsimp only
    refine wpAny_bind ?_
    rw [← Array.forIn_toList, List.toList_toArray, hits, List.forIn_cons]
    refine wpAny_bind (wpAny_bind (wpAny_holding ?_))
    show wpAny _ _ (Builtin.SmallTypes.nextOf (.ref (b + 0)) >>= _) _ _ _
    refine wpAny_bind (RZ.nextOf_tuple_end (s := { s with heap := h1 }) hh hit1 (tuple_off o1 hrb hI) hx fun h3 e hs3 he => hE h3 e (fun c o r x => ?_) he)
    exact hs3 _ _ (ne_nat (by omega)) (o1 c o r x)
theorem pyNext_item {b : Nat} {rows : List Addr} {f0 : Value} {f1 : Bool} {i : Nat} {col : List Value} {Q : Option Value → Shared → Prop} (st : St0 s.heap b rows f0 f1 (fun _ => i)) (hf : f0 = .none ∨ ∃ a : Nat, f0 = rawInt a) (hn : 0 < rows.length) (hn2 : rows.length ≤ 1000)
    (hr : ∀ row ∈ rows, row < b) (hc : col.length = rows.length) (hx : ∀ (k : Nat) (row : Addr), rows[k]? = some row → ∃ (items : Array Value) (x : Value), s.heap.IsTuple row items ∧ items[i]? = some x ∧ col[k]? = some x)
    (hQ : ∀ h' f0' f1', St0 h' b rows f0' f1' (fun _ => i + 1) → (f0' = .none ∨ ∃ a : Nat, f0' = rawInt a) → TAt h' s.heap.objs.size col → h'.objs.size = s.heap.objs.size + 1 → Off b rows.length s.heap h' → Q (some (.ref s.heap.objs.size)) { s with heap := h' }) :
    wpAny (model prog w) A (pyNext (.ref (b + rows.length + 2))) Q E s := by
  have hT : s.TypeIs (.ref (b + rows.length + 2)) "zip" := ⟨_, st.zip, rfl⟩
  unfold pyNext
  exact wpAny_bind (wpAny_attempt (wpAny_callSpecial?_slot (name := Str.ofString "__next__") hT F.slot_zip_next
    (wpAny_call_entry F.slot_zip_next hT F.entry_zip_next
      (next_item st hf hn hn2 hr hc hx fun h' a b' a1 a2 a3 a4 a5 => wpAny_pure (hQ h' a b' a1 a2 a3 a4 a5)) (F.args_zip_next_1 _))))
theorem pyNext_end {b : Nat} {rows : List Addr} {f0 : Value} {f1 : Bool} {i : Nat} {row : Addr} {items : Array Value} {Q : Option Value → Shared → Prop} (hh : A.handled = none) (st : St0 s.heap b rows f0 f1 (fun _ => i)) (hf : f0 = .none ∨ ∃ a : Nat, f0 = rawInt a)
    (hr0 : rows[0]? = some row) (hrb : row < b) (hI : s.heap.IsTuple row items) (hx : items[i]? = none) (hQ : ∀ h', Off b rows.length s.heap h' → Q none { s with heap := h' }) :
    wpAny (model prog w) A (pyNext (.ref (b + rows.length + 2))) Q E s := by
  have hT : s.TypeIs (.ref (b + rows.length + 2)) "zip" := ⟨_, st.zip, rfl⟩
  unfold pyNext
  refine wpAny_bind (wpAny_attempt (wpAny_callSpecial?_slot (name := Str.ofString "__next__") hT F.slot_zip_next
    (wpAny_call_entry F.slot_zip_next hT F.entry_zip_next (next_end hh st hf hr0 hrb hI hx fun h' e hk he => ?_) (F.args_zip_next_1 _))))
  obtain ⟨o, ho, hc⟩ := he
  refine wpAny_bind (wpAny_isInstance (T := "StopIteration") (b := true) ⟨o, ho, hc⟩ isSubtype_stop ?_)
  exact wpAny_pure (hQ _ hk)
theorem pyIter_zip {z TI TO : Addr} {f0 : Value} {f1 : Bool} {Q : Value → Shared → Prop} (hz : ZAt s.heap z TI TO f0 f1) (h : Q (.ref z) s) : wpAny (model prog w) A (pyIter (.ref z)) Q E s := by
  have hT : s.TypeIs (.ref z) "zip" := ⟨_, hz, rfl⟩
  refine wpAny_pyIter_slot hT F.slot_zip_iter (wpAny_call_entry F.slot_zip_iter hT F.entry_zip_iter ?_ (F.args_zip_iter_1 _))
  show wpAny _ _ (ret (.ref z)) _ _ s
  exact wpAny_pure ⟨_, rfl, "zip", _, hT, F.slot_zip_next.lookup, h⟩
/-! making it -/
theorem typeCall (as : List Value) (h : as.length ≤ 7) : checkTypeCall "zip" ⟨as, []⟩ = pure () := by
  match as, h with
  | [], _ => kernel_rfl
  | [a], _ => kernel_rfl
  | [a, b], _ => kernel_rfl
  | [a, b, c], _ => kernel_rfl
  | [a, b, c, d], _ => kernel_rfl
  | [a, b, c, d, e], _ => kernel_rfl
  | [a, b, c, d, e, f], _ => kernel_rfl
  | [a, b, c, d, e, f, g], _ => kernel_rfl
  | _ :: _ :: _ :: _ :: _ :: _ :: _ :: _ :: _, h => simp at h
theorem newCall (as : List Value) (h : as.length ≤ 7) : checkBuiltinCall "zip.__new__" ⟨.type "zip" :: as, []⟩ = pure () := by
  match as, h with
  | [], _ => kernel_rfl
  | [a], _ => kernel_rfl
  | [a, b], _ => kernel_rfl
  | [a, b, c], _ => kernel_rfl
  | [a, b, c, d], _ => kernel_rfl
  | [a, b, c, d, e], _ => kernel_rfl
  | [a, b, c, d, e, f], _ => kernel_rfl
  | [a, b, c, d, e, f, g], _ => kernel_rfl
  | _ :: _ :: _ :: _ :: _ :: _ :: _ :: _ :: _, h => simp at h
theorem initArgs (o : Value) (as : List Value) (h : as.length ≤ 7) : argsOk "object.__init__" ⟨o :: as, []⟩ := by
  unfold argsOk
  rw [signature?_of (id := "object.__init__") (n := ['_', '_', 't', 'i', 'n', 'i', '_', '_']) (o := ['t', 'c', 'e', 'j', 'b', 'o']) (by kernel_rfl) F.owner_object]
  match as, h with
  | [], _ => kernel_rfl
  | [a], _ => kernel_rfl
  | [a, b], _ => kernel_rfl
  | [a, b, c], _ => kernel_rfl
  | [a, b, c, d], _ => kernel_rfl
  | [a, b, c, d, e], _ => kernel_rfl
  | [a, b, c, d, e, f], _ => kernel_rfl
  | [a, b, c, d, e, f, g], _ => kernel_rfl
  | _ :: _ :: _ :: _ :: _ :: _ :: _ :: _ :: _, h => simp at h
end
end ZS

namespace ZS
open PySem
def pushIts : Heap → List Addr → Heap
  | h, [] => h
  | h, l :: ls => pushIts (h.push { cls := .type "tuple_iterator", data := .fields #[.ref l, .int 0 0] }) ls
theorem push_size : ∀ (ls : List Addr) (h : Heap), (pushIts h ls).objs.size = h.objs.size + ls.length
  | [], h => rfl
  | l :: ls, h => by rw [pushIts, push_size ls, Heap.size_push, List.length_cons]; omega
theorem push_old : ∀ (ls : List Addr) (h : Heap) {c : Addr} {o : Obj}, h.get? c = some o → (pushIts h ls).get? c = some o
  | [], h, _, _, e => e
  | l :: ls, h, c, o, e => push_old ls _ (Heap.get?_push_of_some _ e)
theorem push_it : ∀ (ls : List Addr) (h : Heap) (k : Nat) (row : Addr), ls[k]? = some row → (pushIts h ls).IsTupleIter (h.objs.size + k) row 0
  | [], h, k, row, e => by simp at e
  | l :: ls, h, 0, row, e => by
    simp at e
    subst e
    exact ⟨_, push_old ls _ (Heap.get?_push_size _ rfl), rfl, rfl⟩
  | l :: ls, h, k + 1, row, e => by
    have := push_it ls (h.push { cls := .type "tuple_iterator", data := .fields #[.ref l, .int 0 0] }) k row (by simpa using e)
    rw [Heap.size_push] at this
    rw [show h.objs.size + (k + 1) = h.objs.size + 1 + k by omega]
    exact this
theorem push_snoc : ∀ (ls : List Addr) (h : Heap) (l : Addr), pushIts h (ls ++ [l]) = (pushIts h ls).push { cls := .type "tuple_iterator", data := .fields #[.ref l, .int 0 0] }
  | [], h, l => rfl
  | x :: ls, h, l => by rw [List.cons_append, pushIts, push_snoc ls, pushIts]
def Made (h : Heap) (rows : List Addr) (h' : Heap) : Prop := St0 h' h.objs.size rows .none false (fun _ => 0) ∧ ∀ c o, h.get? c = some o → h'.get? c = some o
set_option maxHeartbeats 4000000 in
theorem meets_new (rows : List Addr) (hn : rows.length ≤ 7) :
    Meets (Builtin.«zip.__new__» ⟨.type "zip" :: rows.map Value.ref, []⟩) (fun _ R s => (∀ row ∈ rows, ∃ items, s.heap.IsTuple row items) ∧
      ∀ h', Made s.heap rows h' → R (.ok (.ret (.ref (s.heap.objs.size + rows.length + 2)))) { s with heap := h' }) :=
  .of_wp fun prog w A R s h => by
    obtain ⟨hp, g, d, tk, os⟩ := s
    obtain ⟨ht, h⟩ := h
    have hsub := sub_zip
    wp_walk
    show wpAny (model prog w) A.in1 (forIn (rows.map Value.ref) (#[] : Array Value) (fun x its => holding its.toList (pyIter x) >>= fun v => pure (ForInStep.yield (its.push v)))) _ _ _
    refine wpAny_mono (wpAny_forIn_list _ (fun rest b s' => ∃ k, k ≤ rows.length ∧ rest = (rows.map Value.ref).drop k ∧ b = (itsOf hp.objs.size k).toArray ∧ s' = ⟨pushIts hp (rows.take k), g, d, tk, os⟩)
      (fun b s' => b = (itsOf hp.objs.size rows.length).toArray ∧ s' = ⟨pushIts hp rows, g, d, tk, os⟩) ?turn ?fin _ _ ?start) ?after (fun _ _ x => x)
    case start => exact ⟨0, Nat.zero_le _, rfl, rfl, by rw [List.take_zero]; rfl⟩
    case fin =>
      rintro b s' ⟨k, hk, e, rfl, rfl⟩
      have hk2 : rows.length ≤ k := by
        have := congrArg List.length e
        rw [List.length_drop, List.length_map] at this
        simp at this
        omega
      obtain rfl : k = rows.length := by omega
      exact ⟨rfl, by rw [List.take_length]⟩
    case turn =>
      rintro x rest b s' ⟨k, hk, e, rfl, rfl⟩
      obtain ⟨e1, e2⟩ := cons_drop e
      rw [List.getElem?_map] at e1
      obtain ⟨row, hrow, rfl⟩ := Option.map_eq_some_iff.mp e1
      obtain ⟨items, hI⟩ := ht row (List.mem_of_getElem? hrow)
      have hk2 := (List.getElem?_eq_some_iff.mp hrow).1
      have hI2 : (pushIts hp (rows.take k)).IsTuple row items := by
        obtain ⟨o, ho, r⟩ := hI
        exact ⟨o, push_old _ _ ho, r⟩
      refine wpAny_bind (wpAny_holding (wpAny_pyIter_tuple (s := ⟨pushIts hp (rows.take k), g, d, tk, os⟩) hI2 (wpAny_pure ⟨k + 1, by omega, e2, ?_, ?_⟩)))
      · show (itsOf hp.objs.size k).toArray.push (.ref (pushIts hp (rows.take k)).objs.size) = _
        rw [push_size, List.length_take, Nat.min_eq_left (by omega)]
        unfold itsOf
        rw [List.range_succ, List.map_append]
        simp
      · rw [List.take_add_one, hrow, Option.toList_some, push_snoc]
    case after =>
      rintro b s' ⟨rfl, rfl⟩
      have hz : ∀ l : List Value, l.length ≤ 7 → l.length ≤ sizeLine := fun l h => Nat.le_trans h (by decide)
      refine wpAny_pure ?_
      refine wpAny_bind (wpAny_newTuple (s := ⟨pushIts hp rows, g, d, tk, os⟩) ?_ (hz _ (by rw [List.toList_toArray, its_len]; exact hn)))
      refine wpAny_bind (wpAny_newTuple (s := ⟨(pushIts hp rows).push _, g, d, tk, os⟩) ?_ (hz _ (by rw [List.length_map, List.toList_toArray, its_len]; exact hn)))
      refine wpAny_bind (m := Builtin.SmallTypes.newRecord _ _) ?_
      unfold Builtin.SmallTypes.newRecord
      refine wpAny_newObj_type (s := ⟨((pushIts hp rows).push _).push _, g, d, tk, os⟩) ?_ (by show 5 ≤ sizeLine + 2; decide)
      have e1 : (pushIts hp rows).objs.size = hp.objs.size + rows.length := push_size rows hp
      have up : ∀ c o, hp.get? c = some o → (((pushIts hp rows).push { cls := .type "tuple", data := .seq (itsOf hp.objs.size rows.length).toArray.toList.toArray }).push { cls := .type "tuple", data := .seq ((itsOf hp.objs.size rows.length).toArray.toList.map fun _ => Value.none).toArray }).get? c = some o :=
        fun c o e => Heap.get?_push_of_some _ (Heap.get?_push_of_some _ (push_old _ _ e))
      have upI : ∀ c o, (pushIts hp rows).get? c = some o → (((pushIts hp rows).push { cls := .type "tuple", data := .seq (itsOf hp.objs.size rows.length).toArray.toList.toArray }).push { cls := .type "tuple", data := .seq ((itsOf hp.objs.size rows.length).toArray.toList.map fun _ => Value.none).toArray }).get? c = some o :=
        fun c o e => Heap.get?_push_of_some _ (Heap.get?_push_of_some _ e)
      dsimp only [Builtin.SmallTypes.ownedTupleFields, List.cons_append, List.nil_append]
      rw [Heap.size_push, Heap.size_push, e1]
      refine wpAny_pure ⟨_, rfl, ?_⟩
      have e2 : hp.objs.size + rows.length + 1 + 1 = hp.objs.size + rows.length + 2 := rfl
      rw [e2]
      refine h _ ⟨⟨?_, ?_, ⟨(itsOf hp.objs.size rows.length).map fun _ => Value.none, by rw [List.length_map, its_len], ?_⟩, fun k row hk => ?_⟩, fun c o e => Heap.get?_push_of_some _ (up c o e)⟩
      · show Heap.get? _ _ = _
        have e3 : (((pushIts hp rows).push { cls := .type "tuple", data := .seq (itsOf hp.objs.size rows.length).toArray.toList.toArray }).push { cls := .type "tuple", data := .seq ((itsOf hp.objs.size rows.length).toArray.toList.map fun _ => Value.none).toArray }).objs.size = hp.objs.size + rows.length + 2 := by rw [Heap.size_push, Heap.size_push, e1]
        rw [← e3]
        exact Heap.get?_push_size _ rfl
      · show Heap.get? _ _ = _
        refine Heap.get?_push_of_some _ (Heap.get?_push_of_some _ ?_)
        rw [← e1]
        exact Heap.get?_push_size _ rfl
      · show Heap.get? _ _ = _
        refine Heap.get?_push_of_some _ ?_
        have e4 : ((pushIts hp rows).push { cls := .type "tuple", data := .seq (itsOf hp.objs.size rows.length).toArray.toList.toArray }).objs.size = hp.objs.size + rows.length + 1 := by rw [Heap.size_push, e1]
        rw [← e4]
        exact Heap.get?_push_size _ rfl
      · obtain ⟨o, ho, r⟩ := push_it rows hp k row hk
        exact ⟨o, Heap.get?_push_of_some _ (upI _ _ ho), r⟩
section
variable {prog : Program} {w : World} {A : Around} {E : Value → Shared → Prop} {s : Shared}
theorem call_zipN {rows : List Addr} {Q : Value → Shared → Prop} (hn : rows.length ≤ 7) (ht : ∀ row ∈ rows, ∃ items, s.heap.IsTuple row items)
    (h : ∀ h', Made s.heap rows h' → Q (.ref (s.heap.objs.size + rows.length + 2)) { s with heap := h' }) : wpAny (model prog w) A (call (.type "zip") (rows.map Value.ref)) Q E s := by
  refine callType_new F.called_zip (by decide) (typeCall _ (by rw [List.length_map]; exact hn)) (newCall _ (by rw [List.length_map]; exact hn)) (fun obj => initArgs obj _ (by rw [List.length_map]; exact hn)) F.entry_zip_new
    (meets_new rows hn) ⟨ht, fun h' m => ?_⟩
  exact ⟨⟨_, m.1.zip, rfl⟩, h h' m⟩
end
end ZS

namespace Pv
open PySem PySem.Spec PyProof.Rows L2
/-- the tuples at rows as they stand at each turn, their items at the turn's place in a new tuple -/
def ItS (K : PySem.W.Frag) (rows : List Addr) : It :=
  ⟨fun i H => ∀ row ∈ rows, ∃ xs x, SqT K H row xs ∧ xs[i]? = some x,
    fun i H v H' => ∃ (T : Addr) (col : List V), v = .ref T ∧ H T = none ∧ H' = upd H T (.tup col) ∧ col.length = rows.length ∧ ∀ (k : Nat) (row : Addr), rows[k]? = some row → ∀ xs, SqT K H row xs → col[k]? = xs[i]?,
    fun i H => ∃ row xs, rows[0]? = some row ∧ SqT K H row xs ∧ xs.length ≤ i⟩
def ownZ (b n : Nat) : List Addr := (List.range (n + 3)).map fun k => b + k
theorem ownZ_mem {b n c : Nat} : c ∈ ownZ b n ↔ b ≤ c ∧ c ≤ b + n + 2 := by
  unfold ownZ
  rw [List.mem_map]
  constructor
  · rintro ⟨k, hk, rfl⟩
    rw [List.mem_range] at hk
    omega
  · rintro ⟨h1, h2⟩
    exact ⟨c - b, by rw [List.mem_range]; omega, by omega⟩
theorem cols_of {X : Cx} {pins : List (Addr × Obj)} {σ : L2.St} {H : Hp} {s : Shared} {i : Nat} (I : Inv X pins σ H s) : ∀ {rows : List Addr}, (∀ row ∈ rows, ∃ xs x, SqT X.K H row xs ∧ xs[i]? = some x) →
    ∃ (cv : List V) (cu : List Value), Vals cv cu ∧ cv.length = rows.length ∧ cu.length = rows.length ∧ ∀ (k : Nat) (row : Addr), rows[k]? = some row →
      (∀ xs, SqT X.K H row xs → cv[k]? = xs[i]?) ∧ ∃ (items : Array Value) (u : Value), s.heap.IsTuple row items ∧ items[i]? = some u ∧ cu[k]? = some u
  | [], _ => ⟨[], [], .nil, rfl, rfl, fun k row h => by simp at h⟩
  | r :: rows, h => by
    obtain ⟨cv, cu, h1, h2, h3, h4⟩ := cols_of I (rows := rows) (fun row hr => h row (by simp [hr]))
    obtain ⟨xs, x, hT, hx⟩ := h r (by simp)
    obtain ⟨its, rv, p, _⟩ := I.tuple hT
    obtain ⟨u, hu, ru⟩ := rv.get hx
    refine ⟨x :: cv, u :: cu, .cons ru h1, by simp [h2], by simp [h3], fun k row hk => ?_⟩
    cases k with
    | zero =>
      simp at hk
      subst hk
      exact ⟨fun l hl => by rw [I.tuple_inj hl hT, hx]; rfl, its.toArray, u, p, by simpa using hu, rfl⟩
    | succ k =>
      have := h4 k row (by simpa using hk)
      simpa using this
theorem turn_zipS {P : Program} {w : World} {K : PySem.W.Frag} {y : Str} {py : Pos} {b : Nat} {rows : List Addr} (hn : 0 < rows.length) (hn2 : rows.length ≤ 7) (hb : ∀ row ∈ rows, row < b) :
    Turn P w K (.Name y py) (ItS K rows) (ownZ b rows.length) (b + rows.length + 2) (fun i h => ∃ f0 f1, ZS.St0 h b rows f0 f1 (fun _ => i) ∧ (f0 = .none ∨ ∃ a : Nat, f0 = rawInt a)) where
  mem := ownZ_mem.mpr (by omega)
  obj := fun i h st c hc => by
    obtain ⟨f0, f1, st, _⟩ := st
    obtain ⟨k, hk, rfl⟩ := List.mem_map.mp hc
    rw [List.mem_range] at hk
    by_cases h1 : k < rows.length
    · obtain ⟨o, ho, _, hd⟩ := st.it k rows[k] (List.getElem?_eq_getElem h1)
      exact ⟨o, ho, fun v q => by rw [hd] at q; cases q⟩
    · have h3 : ∀ k n : Nat, k < n + 3 → ¬ k < n → k = n ∨ k = n + 1 ∨ k = n + 2 := fun k n h1 h2 => by omega
      obtain rfl | rfl | rfl := h3 k rows.length hk h1
      · exact ⟨_, st.ti, fun v q => nomatch q⟩
      · obtain ⟨kept, _, e⟩ := st.to
        exact ⟨_, e, fun v q => nomatch q⟩
      · exact ⟨_, st.zip, fun v q => nomatch q⟩
  keep := fun i h h' st k => by
    obtain ⟨f0, f1, st, hf⟩ := st
    have k' : ∀ c, b ≤ c → c ≤ b + rows.length + 2 → ∀ o, h.get? c = some o → h'.get? c = some o := fun c h1 h2 o e => k c (ownZ_mem.mpr ⟨h1, h2⟩) o e
    refine ⟨f0, f1, ⟨k' _ (by omega) (by omega) _ st.zip, k' _ (by omega) (by omega) _ st.ti, ?_, fun j row hj => ?_⟩, hf⟩
    · obtain ⟨kept, h1, e⟩ := st.to
      exact ⟨kept, h1, k' _ (by omega) (by omega) _ e⟩
    · have hj' := (List.getElem?_eq_some_iff.mp hj).1
      obtain ⟨o, ho, r⟩ := st.it j row hj
      exact ⟨o, k' _ (by omega) (by omega) _ ho, r⟩
  item := by
    intro X hP hw hK hc i pins s σ H E I hf st hg
    subst hP hw hK
    obtain ⟨f0, f1, st, hfr⟩ := st
    obtain ⟨cv, cu, h1, h2, h3, h4⟩ := cols_of I hg
    have hlt : b + rows.length + 2 < s.heap.objs.size := Heap.lt_size st.zip
    refine ZS.pyNext_item st hfr hn (by omega) hb h3 (fun k row hk => (h4 k row hk).2) fun h' f0' f1' st' hf' hT hsz hoff => ?_
    refine ⟨_, rfl, ?_⟩
    unfold letOwnedTupleGo
    refine wpAny_pure ?_
    have new : ObjOk X.prog X.w (upd H s.heap.objs.size (.tup cv)) h' s.heap.objs.size (.tup cv) :=
      ⟨Nat.le_trans (show cv.length ≤ 7 by omega) (by decide), cu, h1, ⟨_, hT, rfl, _, rfl⟩⟩
    have I1 : Inv X pins σ (upd H s.heap.objs.size (.tup cv)) { s with heap := h' } :=
      I.turnedNew (t' := s.toks) (ch := ownZ b rows.length) (fun c o hb' q => hoff c o (by rw [ownZ_mem] at hb'; omega) q) hf (Nat.le_refl _) new
    refine ⟨.ref s.heap.objs.size, _, I1, rfl, ⟨_, cv, rfl, I.hok.fresh (Nat.le_refl _), rfl, h2, fun k row hk => (h4 k row hk).1⟩, ⟨f0', f1', st', hf'⟩, fun c hcm => ?_⟩
    have hcm2 := hcm
    obtain ⟨k, hk, rfl⟩ := List.mem_map.mp hcm2
    rw [List.mem_range] at hk
    rw [upd_ne (Nat.ne_of_lt (show b + k < s.heap.objs.size by omega))]
    exact (hf _ hcm).1
  done := by
    intro X hP hw hK hc i pins s σ H E I hf st hg
    subst hP hw hK
    obtain ⟨f0, f1, st, hfr⟩ := st
    obtain ⟨row, xs, hr0, hT, hl⟩ := hg
    obtain ⟨its, rv, p, _⟩ := I.tuple hT
    have l1 := rv.length
    exact ZS.pyNext_end (I.ok.hd hc) st hfr hr0 (hb row (List.mem_of_getElem? hr0)) p (by simp; omega) fun h' hoff => ⟨rfl, I.turnedL (t' := s.toks) (ch := ownZ b rows.length) (fun c o hb' q => hoff c o (by rw [ownZ_mem] at hb'; omega) q) hf⟩
  self := fun A i s Q E st h => by
    obtain ⟨f0, f1, st, _⟩ := st
    exact ZS.pyIter_zip st.zip h
def iZipS (K : PySem.W.Frag) (te : TE) : TI := fun σ H R => te σ H fun x H1 => ∃ (a : Addr) (rows : List Addr), x = .ref a ∧ SqT K H1 a (rows.map V.ref) ∧ 0 < rows.length ∧ rows.length ≤ 7 ∧ (∀ row ∈ rows, ∃ xs, SqT K H1 row xs) ∧ R (ItS K rows) H1
theorem vals_refs : ∀ {rows : List Addr} {us : List Value}, Vals (rows.map V.ref) us → us = rows.map Value.ref
  | [], _, h => by cases h; rfl
  | r :: rows, _, h => by
    cases h with
    | cons h1 h2 => cases h1; rw [vals_refs h2]; rfl
theorem pi_zipS {X : Cx} {e : Expr} {te : TE} {p pos sp_ py : Pos} {y : Str} (hg : Gl X "zip") (hm : X.mg "zip" = none) (he : PE X e te)
    (hst : starEach [.Starred e sp_] X.env = [(true, eval e X.env)] := by rfl) :
    PI X (.Name y py) (.Call (.Name "zip" p) [.Starred e sp_] [] pos) (iZipS X.K te) := by
  refine ⟨fun pins s σ H R I h => ?_⟩
  refine Call_ (ld_blt I hg hm PyProof.Rows.boot_zip ?_)
  rw [hst]
  refine PySem.W.ks_call (P := fun _ => True) rfl (fun h _ => ⟨.machine, .inr (.inl rfl), fun A Q E s _ q => wpAny_pure q⟩) (PySem.W.ks_lone (thn (he.run pins s σ H _ I h) fun v s1 ⟨x, H1, I1, rx, a, rows, ex, hT, hn, hn2, hrows, q⟩ => ?_))
  subst ex
  obtain rfl : v = Value.ref a := rx
  refine StX.star_any I1 (.inl hT) fun us s2 I2 rv => ⟨trivial, ?_⟩
  rw [vals_refs rv]
  have hlt : ∀ row ∈ rows, row < s2.heap.objs.size ∧ ∃ items, s2.heap.IsTuple row items := fun row hr => by
    obtain ⟨xs, hx⟩ := hrows row hr
    obtain ⟨its, _, p1, _⟩ := I2.tuple hx
    obtain ⟨o, ho, _⟩ := id p1
    exact ⟨Heap.lt_size ho, its.toArray, p1⟩
  refine ZS.call_zipN hn2 (fun row hr => (hlt row hr).2) fun h' m => ?_
  refine ZS.pyIter_zip (s := { s2 with heap := h' }) m.1.zip ?_
  have I3 : Inv X pins σ H1 { s2 with heap := h' } := I2.kept (t' := s2.toks) m.2
  refine ⟨s2.heap.objs.size + rows.length + 2, ownZ s2.heap.objs.size rows.length, _, _, H1, rfl, I3, turn_zipS hn hn2 (fun row hr => (hlt row hr).1), ⟨.none, false, m.1, .inl rfl⟩, fun c hcm => ?_, q⟩
  have hle := (ownZ_mem.mp hcm).1
  exact I2.fpOk hle (I2.hok.fresh hle)
theorem walk_zipS {K : PySem.W.Frag} {rows : List Addr} {xss : List (List V)} {n : Nat} (hn : 0 < rows.length) (hl : xss.length = rows.length) (hx : ∀ xs ∈ xss, xs.length = n) :
    Walk (ItS K rows) n (fun H => ∀ (k : Nat) (row : Addr) (xs : List V), rows[k]? = some row → xss[k]? = some xs → SqT K H row xs)
      (fun i H v H' => ∃ (T : Addr) (col : List V), v = .ref T ∧ H T = none ∧ H' = upd H T (.tup col) ∧ col.length = rows.length ∧ ∀ (k : Nat) (xs : List V), xss[k]? = some xs → col[k]? = xs[i]?) := by
  have hat : ∀ (k : Nat), k < rows.length → ∃ xs, xss[k]? = some xs ∧ xs ∈ xss := fun k hk => ⟨xss[k]'(by omega), List.getElem?_eq_getElem (by omega), List.getElem_mem _⟩
  constructor
  · rintro i H hi q row hr
    obtain ⟨k, hk, e⟩ := List.getElem_of_mem hr
    obtain ⟨xs, h1, h2⟩ := hat k hk
    have := hx xs h2
    exact ⟨xs, xs[i]'(by omega), q k row xs (by rw [List.getElem?_eq_getElem hk, e]) h1, List.getElem?_eq_getElem _⟩
  · rintro H q
    obtain ⟨xs, h1, h2⟩ := hat 0 hn
    have := hx xs h2
    exact ⟨rows[0], xs, List.getElem?_eq_getElem hn, q 0 _ xs (List.getElem?_eq_getElem hn) h1, by omega⟩
  · rintro i H v H' _ q ⟨T, col, h1, h2, h3, h4, h5⟩
    refine ⟨T, col, h1, h2, h3, h4, fun k xs hk => ?_⟩
    have hk' : k < rows.length := by have := (List.getElem?_eq_some_iff.mp hk).1; omega
    exact h5 k _ (List.getElem?_eq_getElem hk') xs (q k _ xs (List.getElem?_eq_getElem hk') hk)
end Pv

namespace ZM
open PySem
/-- a new iterator over a list (true) or a tuple -/
def itO (x : Bool × Addr) : Obj := { cls := .type (if x.1 then "list_iterator" else "tuple_iterator"), data := .fields #[.ref x.2, .int 0 0] }
def pushIts : Heap → List (Bool × Addr) → Heap
  | h, [] => h
  | h, l :: ls => pushIts (h.push (itO l)) ls
theorem push_size : ∀ (ls : List (Bool × Addr)) (h : Heap), (pushIts h ls).objs.size = h.objs.size + ls.length
  | [], h => rfl
  | l :: ls, h => by rw [pushIts, push_size ls, Heap.size_push, List.length_cons]; omega
theorem push_old : ∀ (ls : List (Bool × Addr)) (h : Heap) {c : Addr} {o : Obj}, h.get? c = some o → (pushIts h ls).get? c = some o
  | [], h, _, _, e => e
  | l :: ls, h, c, o, e => push_old ls _ (Heap.get?_push_of_some _ e)
theorem push_it : ∀ (ls : List (Bool × Addr)) (h : Heap) (k : Nat) (row : Bool × Addr), ls[k]? = some row → IterK row.1 (pushIts h ls) (h.objs.size + k) row.2 0
  | [], h, k, row, e => by simp at e
  | l :: ls, h, 0, row, e => by
    simp at e
    subst e
    exact ⟨_, push_old ls _ (Heap.get?_push_size _ rfl), rfl, rfl⟩
  | l :: ls, h, k + 1, row, e => by
    have := push_it ls (h.push (itO l)) k row (by simpa using e)
    rw [Heap.size_push] at this
    rw [show h.objs.size + (k + 1) = h.objs.size + 1 + k by omega]
    exact this
theorem push_snoc : ∀ (ls : List (Bool × Addr)) (h : Heap) (l : Bool × Addr), pushIts h (ls ++ [l]) = (pushIts h ls).push (itO l)
  | [], h, l => rfl
  | x :: ls, h, l => by rw [List.cons_append, pushIts, push_snoc ls, pushIts]
def kdR (R : List (Bool × Addr)) : Nat → Bool := fun k => ((R[k]?).map (fun x => x.1)).getD false
theorem iterK {prog : Program} {w : World} {A : Around} {E : Value → Shared → Prop} {s : Shared} {row : Bool × Addr} {items : Array Value} {Q : Value → Shared → Prop} (h : SeqK row.1 s.heap row.2 items) (q : Q (.ref s.heap.objs.size) { s with heap := s.heap.push (itO row) }) : wpAny (model prog w) A (pyIter (.ref row.2)) Q E s := by
  obtain ⟨c, l⟩ := row
  cases c with
  | true => exact wpAny_pyIter_list h q
  | false => exact wpAny_pyIter_tuple h q
def Made (h : Heap) (rows : List (Bool × Addr)) (h' : Heap) : Prop := St0 (kdR rows) h' h.objs.size (rows.map fun x => x.2) .none false (fun _ => 0) ∧ ∀ c o, h.get? c = some o → h'.get? c = some o
set_option maxHeartbeats 4000000 in
theorem meets_new (rows : List (Bool × Addr)) (hn : rows.length ≤ 7) :
    Meets (Builtin.«zip.__new__» ⟨.type "zip" :: (rows.map fun x => Value.ref x.2), []⟩) (fun _ R s => (∀ row ∈ rows, ∃ items, SeqK row.1 s.heap row.2 items) ∧
      ∀ h', Made s.heap rows h' → R (.ok (.ret (.ref (s.heap.objs.size + rows.length + 2)))) { s with heap := h' }) :=
  .of_wp fun prog w A R s h => by
    obtain ⟨hp, g, d, tk, os⟩ := s
    obtain ⟨ht, h⟩ := h
    have hsub := sub_zip
    wp_walk
    show wpAny (model prog w) A.in1 (forIn ((rows.map fun x => Value.ref x.2)) (#[] : Array Value) (fun x its => holding its.toList (pyIter x) >>= fun v => pure (ForInStep.yield (its.push v)))) _ _ _
    refine wpAny_mono (wpAny_forIn_list _ (fun rest b s' => ∃ k, k ≤ rows.length ∧ rest = ((rows.map fun x => Value.ref x.2)).drop k ∧ b = (itsOf hp.objs.size k).toArray ∧ s' = ⟨pushIts hp (rows.take k), g, d, tk, os⟩)
      (fun b s' => b = (itsOf hp.objs.size rows.length).toArray ∧ s' = ⟨pushIts hp rows, g, d, tk, os⟩) ?turn ?fin _ _ ?start) ?after (fun _ _ x => x)
    case start => exact ⟨0, Nat.zero_le _, rfl, rfl, by rw [List.take_zero]; rfl⟩
    case fin =>
      rintro b s' ⟨k, hk, e, rfl, rfl⟩
      have hk2 : rows.length ≤ k := by
        have := congrArg List.length e
        rw [List.length_drop, List.length_map] at this
        simp at this
        omega
      obtain rfl : k = rows.length := by omega
      exact ⟨rfl, by rw [List.take_length]⟩
    case turn =>
      rintro x rest b s' ⟨k, hk, e, rfl, rfl⟩
      obtain ⟨e1, e2⟩ := cons_drop e
      rw [List.getElem?_map] at e1
      obtain ⟨row, hrow, rfl⟩ := Option.map_eq_some_iff.mp e1
      obtain ⟨items, hI⟩ := ht row (List.mem_of_getElem? hrow)
      have hk2 := (List.getElem?_eq_some_iff.mp hrow).1
      have hI2 : SeqK row.1 (pushIts hp (rows.take k)) row.2 items := by
        obtain ⟨o, ho, r⟩ := hI
        exact ⟨o, push_old _ _ ho, r⟩
      refine wpAny_bind (wpAny_holding (iterK (s := ⟨pushIts hp (rows.take k), g, d, tk, os⟩) hI2 (wpAny_pure ⟨k + 1, by omega, e2, ?_, ?_⟩)))
      · show (itsOf hp.objs.size k).toArray.push (.ref (pushIts hp (rows.take k)).objs.size) = _
        rw [push_size, List.length_take, Nat.min_eq_left (by omega)]
        unfold itsOf
        rw [List.range_succ, List.map_append]
        simp
      · rw [List.take_add_one, hrow, Option.toList_some, push_snoc]
    case after =>
      rintro b s' ⟨rfl, rfl⟩
      have hz : ∀ l : List Value, l.length ≤ 7 → l.length ≤ sizeLine := fun l h => Nat.le_trans h (by decide)
      refine wpAny_pure ?_
      refine wpAny_bind (wpAny_newTuple (s := ⟨pushIts hp rows, g, d, tk, os⟩) ?_ (hz _ (by rw [List.toList_toArray, its_len]; exact hn)))
      refine wpAny_bind (wpAny_newTuple (s := ⟨(pushIts hp rows).push _, g, d, tk, os⟩) ?_ (hz _ (by rw [List.length_map, List.toList_toArray, its_len]; exact hn)))
      refine wpAny_bind (m := Builtin.SmallTypes.newRecord _ _) ?_
      unfold Builtin.SmallTypes.newRecord
      refine wpAny_newObj_type (s := ⟨((pushIts hp rows).push _).push _, g, d, tk, os⟩) ?_ (by show 5 ≤ sizeLine + 2; decide)
      have e1 : (pushIts hp rows).objs.size = hp.objs.size + rows.length := push_size rows hp
      have up : ∀ c o, hp.get? c = some o → (((pushIts hp rows).push { cls := .type "tuple", data := .seq (itsOf hp.objs.size rows.length).toArray.toList.toArray }).push { cls := .type "tuple", data := .seq ((itsOf hp.objs.size rows.length).toArray.toList.map fun _ => Value.none).toArray }).get? c = some o :=
        fun c o e => Heap.get?_push_of_some _ (Heap.get?_push_of_some _ (push_old _ _ e))
      have upI : ∀ c o, (pushIts hp rows).get? c = some o → (((pushIts hp rows).push { cls := .type "tuple", data := .seq (itsOf hp.objs.size rows.length).toArray.toList.toArray }).push { cls := .type "tuple", data := .seq ((itsOf hp.objs.size rows.length).toArray.toList.map fun _ => Value.none).toArray }).get? c = some o :=
        fun c o e => Heap.get?_push_of_some _ (Heap.get?_push_of_some _ e)
      dsimp only [Builtin.SmallTypes.ownedTupleFields, List.cons_append, List.nil_append]
      rw [Heap.size_push, Heap.size_push, e1]
      refine wpAny_pure ⟨_, rfl, ?_⟩
      have e2 : hp.objs.size + rows.length + 1 + 1 = hp.objs.size + rows.length + 2 := rfl
      rw [e2]
      refine h _ ⟨⟨?_, ?_, ⟨(itsOf hp.objs.size rows.length).map fun _ => Value.none, by rw [List.length_map, its_len, List.length_map], ?_⟩, fun k row hk => ?_⟩, fun c o e => Heap.get?_push_of_some _ (up c o e)⟩
      · show Heap.get? _ _ = _
        simp only [List.length_map]
        have e3 : (((pushIts hp rows).push { cls := .type "tuple", data := .seq (itsOf hp.objs.size rows.length).toArray.toList.toArray }).push { cls := .type "tuple", data := .seq ((itsOf hp.objs.size rows.length).toArray.toList.map fun _ => Value.none).toArray }).objs.size = hp.objs.size + rows.length + 2 := by rw [Heap.size_push, Heap.size_push, e1]
        rw [← e3]
        exact Heap.get?_push_size _ rfl
      · show Heap.get? _ _ = _
        simp only [List.length_map]
        refine Heap.get?_push_of_some _ (Heap.get?_push_of_some _ ?_)
        rw [← e1]
        exact Heap.get?_push_size _ rfl
      · show Heap.get? _ _ = _
        simp only [List.length_map]
        refine Heap.get?_push_of_some _ ?_
        have e4 : ((pushIts hp rows).push { cls := .type "tuple", data := .seq (itsOf hp.objs.size rows.length).toArray.toList.toArray }).objs.size = hp.objs.size + rows.length + 1 := by rw [Heap.size_push, e1]
        rw [← e4]
        exact Heap.get?_push_size _ rfl
      · rw [List.getElem?_map] at hk
        obtain ⟨x, hx, rfl⟩ := Option.map_eq_some_iff.mp hk
        obtain ⟨o, ho, r⟩ := push_it rows hp k x hx
        have e9 : kdR rows k = x.1 := by unfold kdR; rw [hx]; rfl
        rw [e9]
        exact ⟨o, Heap.get?_push_of_some _ (upI _ _ ho), r⟩
section
variable {prog : Program} {w : World} {A : Around} {E : Value → Shared → Prop} {s : Shared}
theorem call_zipN {rows : List (Bool × Addr)} {Q : Value → Shared → Prop} (hn : rows.length ≤ 7) (ht : ∀ row ∈ rows, ∃ items, SeqK row.1 s.heap row.2 items)
    (h : ∀ h', Made s.heap rows h' → Q (.ref (s.heap.objs.size + rows.length + 2)) { s with heap := h' }) : wpAny (model prog w) A (call (.type "zip") ((rows.map fun x => Value.ref x.2))) Q E s := by
  refine callType_new F.called_zip (by decide) (ZS.typeCall _ (by rw [List.length_map]; exact hn)) (ZS.newCall _ (by rw [List.length_map]; exact hn)) (fun obj => ZS.initArgs obj _ (by rw [List.length_map]; exact hn)) F.entry_zip_new
    (meets_new rows hn) ⟨ht, fun h' m => ?_⟩
  exact ⟨⟨_, by have z := m.1.zip; simp only [List.length_map] at z; exact z, rfl⟩, h h' m⟩
end
end ZM

namespace Pv
open PySem PySem.Spec PyProof.Rows L2
/-! for y in zip(a list, a tuple): a new pair at each turn -/
def ItE (K : PySem.W.Frag) (a b : Addr) : It :=
  ⟨fun i H => ∃ xs ys x y, SqL K H a xs ∧ SqT K H b ys ∧ xs[i]? = some x ∧ ys[i]? = some y,
    fun i H v H' => ∃ (T : Addr) (x y : V), v = .ref T ∧ H T = none ∧ H' = upd H T (.tup [x, y]) ∧ (∀ xs, SqL K H a xs → xs[i]? = some x) ∧ ∀ ys, SqT K H b ys → ys[i]? = some y,
    fun i H => ∃ xs, SqL K H a xs ∧ xs.length ≤ i⟩
def kdE : Nat → Bool := fun k => decide (k = 0)
theorem turn_zipE {P : Program} {w : World} {K : PySem.W.Frag} {y : Str} {py : Pos} {b : Nat} {l t : Addr} (hl : l < b) (ht : t < b) :
    Turn P w K (.Name y py) (ItE K l t) (ownZ b 2) (b + 4) (fun i h => ∃ f0 f1, ZM.St0 kdE h b [l, t] f0 f1 (fun _ => i) ∧ (f0 = .none ∨ ∃ a : Nat, f0 = rawInt a)) where
  mem := ownZ_mem.mpr (by omega)
  obj := fun i h st c hc => by
    obtain ⟨f0, f1, st, _⟩ := st
    obtain ⟨k, hk, rfl⟩ := List.mem_map.mp hc
    rw [List.mem_range] at hk
    match k, hk with
    | 0, _ => obtain ⟨o, ho, _, hd⟩ := st.it 0 l rfl; exact ⟨o, ho, fun v q => by rw [hd] at q; cases q⟩
    | 1, _ => obtain ⟨o, ho, _, hd⟩ := st.it 1 t rfl; exact ⟨o, ho, fun v q => by rw [hd] at q; cases q⟩
    | 2, _ => exact ⟨_, st.ti, fun v q => nomatch q⟩
    | 3, _ => obtain ⟨kept, _, e⟩ := st.to; exact ⟨_, e, fun v q => nomatch q⟩
    | 4, _ => exact ⟨_, st.zip, fun v q => nomatch q⟩
    | k + 5, h => omega
  keep := fun i h h' st k => by
    obtain ⟨f0, f1, st, hf⟩ := st
    have k' : ∀ c, b ≤ c → c ≤ b + 2 + 2 → ∀ o, h.get? c = some o → h'.get? c = some o := fun c h1 h2 o e => k c (ownZ_mem.mpr ⟨h1, h2⟩) o e
    refine ⟨f0, f1, ⟨k' _ (by simp; omega) (by simp) _ st.zip, k' _ (by simp) (by simp) _ st.ti, ?_, fun j row hj => ?_⟩, hf⟩
    · obtain ⟨kept, h1, e⟩ := st.to
      exact ⟨kept, h1, k' _ (by simp; omega) (by simp) _ e⟩
    · have hj' : j < 2 := (List.getElem?_eq_some_iff.mp hj).1
      obtain ⟨o, ho, r⟩ := st.it j row hj
      exact ⟨o, k' _ (by omega) (by omega) _ ho, r⟩
  item := by
    intro X hP hw hK hc i pins s σ H E I hf st hg
    subst hP hw hK
    obtain ⟨f0, f1, st, hfr⟩ := st
    obtain ⟨xs, ys, x, y0, hqx, hqy, hx, hy⟩ := hg
    obtain ⟨its, rv, p, _⟩ := I.list hqx
    obtain ⟨its2, rv2, p2, _⟩ := I.tuple hqy
    obtain ⟨u, hu, ru⟩ := rv.get hx
    obtain ⟨u2, hu2, ru2⟩ := rv2.get hy
    have hlt : b + 2 + 2 < s.heap.objs.size := Heap.lt_size st.zip
    refine ZM.pyNext_item (rows := [l, t]) (col := [u, u2]) st hfr (by simp) (by simp) (fun row hr => ?_) rfl (fun k row hk => ?_) fun h' f0' f1' st' hf' hT hsz hoff => ?_
    · simp only [List.mem_cons, List.not_mem_nil, or_false] at hr
      rcases hr with rfl | rfl
      · exact hl
      · exact ht
    · match k, hk with
      | 0, hk => simp at hk; subst hk; exact ⟨its.toArray, u, p.isList, by simpa using hu, rfl⟩
      | 1, hk => simp at hk; subst hk; exact ⟨its2.toArray, u2, p2, by simpa using hu2, rfl⟩
      | k + 2, hk => simp at hk
    refine ⟨_, rfl, ?_⟩
    unfold letOwnedTupleGo
    refine wpAny_pure ?_
    have new : ObjOk X.prog X.w (upd H s.heap.objs.size (.tup [x, y0])) h' s.heap.objs.size (.tup [x, y0]) :=
      ⟨by show 2 ≤ sizeLine; decide, [u, u2], .cons ru (.cons ru2 .nil), ⟨_, hT, rfl, _, rfl⟩⟩
    have I1 : Inv X pins σ (upd H s.heap.objs.size (.tup [x, y0])) { s with heap := h' } :=
      I.turnedNew (t' := s.toks) (ch := ownZ b 2) (fun c o hb' q => hoff c o (by rw [ownZ_mem] at hb'; simp; omega) q) hf (Nat.le_refl _) new
    refine ⟨.ref s.heap.objs.size, _, I1, rfl, ⟨_, x, y0, rfl, I.hok.fresh (Nat.le_refl _), rfl, fun l hl => by rw [I.list_inj hl hqx]; exact hx, fun l hl => by rw [I.tuple_inj hl hqy]; exact hy⟩, ⟨f0', f1', st', hf'⟩, fun c hcm => ?_⟩
    have hcm2 := hcm
    obtain ⟨k, hk, rfl⟩ := List.mem_map.mp hcm2
    rw [List.mem_range] at hk
    rw [upd_ne (Nat.ne_of_lt (show b + k < s.heap.objs.size by omega))]
    exact (hf _ hcm).1
  done := by
    intro X hP hw hK hc i pins s σ H E I hf st hg
    subst hP hw hK
    obtain ⟨f0, f1, st, hfr⟩ := st
    obtain ⟨xs, hqx, hle⟩ := hg
    obtain ⟨its, rv, p, _⟩ := I.list hqx
    have l1 := rv.length
    exact ZM.pyNext_end (rows := [l, t]) (items := its.toArray) (I.ok.hd hc) st hfr rfl hl p.isList (by simp; omega) fun h' hoff => ⟨rfl, I.turnedL (t' := s.toks) (ch := ownZ b 2) (fun c o hb' q => hoff c o (by rw [ownZ_mem] at hb'; simp; omega) q) hf⟩
  self := fun A i s Q E st h => by
    obtain ⟨f0, f1, st, _⟩ := st
    exact ZM.pyIter_zip st.zip h
def iZipE (K : PySem.W.Frag) (ta : TA) : TI := fun σ H R => ta σ H fun vs H1 => ∃ a b xs ys, vs = [.ref a, .ref b] ∧ SqL K H1 a xs ∧ SqT K H1 b ys ∧ R (ItE K a b) H1
theorem pi_zipE {X : Cx} {e e2 : Expr} {ta : TA} {p pos py : Pos} {y : Str} (hg : Gl X "zip") (hm : X.mg "zip" = none) (ha : PA X [e, e2] ta)
    (hs : starEach [e, e2] X.env = (false, eval e X.env) :: starEach [e2] X.env := by rfl) (hpl : (backTo pos (starEach [e2] X.env)).any (·.1) = false := by rfl) :
    PI X (.Name y py) (.Call (.Name "zip" p) [e, e2] [] pos) (iZipE X.K ta) := by
  refine ⟨fun pins s σ H R I h => Call_ (ld_blt I hg hm PyProof.Rows.boot_zip (PyProof.Rows.callWith_type1 (thn (ha.run pos pins s σ H _ I h) ?_) hs hpl))⟩
  rintro us s1 ⟨vs, H1, I1, r1, a, b, xs, ys, rfl, hqx, hqy, q⟩
  obtain ⟨u, v, rfl, rfl, rfl⟩ := vals2 r1
  obtain ⟨its, rv, p1, _⟩ := I1.list hqx
  obtain ⟨its2, rv2, p2, _⟩ := I1.tuple hqy
  refine call_zipM p1.isList (show s1.heap.IsTuple b its2.toArray from p2) fun h' hz hTI hTO h1 h2 hk => wpAny_pyIter_zip hz ?_
  have I2 : Inv X pins σ H1 { s1 with heap := h' } := I1.kept (t' := s1.toks) hk
  refine ⟨s1.heap.objs.size + 4, ownZ s1.heap.objs.size 2, _, _, H1, rfl, I2, turn_zipE p1.lt (tupLt p2), ⟨.none, false, ⟨hz, hTI, ⟨_, rfl, hTO⟩, fun k row hk' => ?_⟩, .inl rfl⟩, fun c hcm => ?_, q⟩
  · match k, hk' with
    | 0, hk' => simp at hk'; subst hk'; exact h1
    | 1, hk' => simp at hk'; subst hk'; exact h2
    | k + 2, hk' => simp at hk'
  · have hle := (ownZ_mem.mp hcm).1
    exact I1.fpOk hle (I1.hok.fresh hle)
theorem walk_zipE {K : PySem.W.Frag} {a b : Addr} {xs ys : List V} (hn : xs.length = ys.length) :
    Walk (ItE K a b) xs.length (fun H => SqL K H a xs ∧ SqT K H b ys) (YPair (fun i => xs[i]?) (fun i => ys[i]?)) := by
  constructor
  · rintro i H hi ⟨q1, q2⟩
    exact ⟨xs, ys, xs[i], ys[i]'(by omega), q1, q2, List.getElem?_eq_getElem hi, List.getElem?_eq_getElem (by omega)⟩
  · rintro H ⟨q1, q2⟩
    exact ⟨xs, q1, Nat.le_refl _⟩
  · rintro i H v H' _ ⟨q1, q2⟩ ⟨T, x, z, h1, h2, h3, h4, h5⟩
    exact ⟨T, x, z, h1, h2, h3, h4 xs q1, h5 ys q2⟩
end Pv

namespace Pv
open PySem PySem.Spec PyProof.Rows L2
/-! zip of some tuples under a tuple pattern -/
section
variable {prog : Program} {w : World} {A : Around} {E : Value → Shared → Prop} {s : Shared}
theorem go_zipS {elts : List Expr} {x1} {pos : Pos} {b : Nat} {rows : List Addr} {f0 : Value} {f1 : Bool} {at_ : Nat → Nat} {T : Addr} {Q : Unit → Shared → Prop} (st : ZS.St0 s.heap b rows f0 f1 at_) (hf : f0 = .none ∨ ∃ a : Nat, f0 = rawInt a)
    (hQ : ∀ h' f0', ZS.St0 h' b rows f0' f1 at_ → (f0' = .none ∨ ∃ a : Nat, f0' = rawInt a) → Heap.SameBut (b + rows.length + 2) s.heap h' → Q () { s with heap := h' }) :
    wpAny (model prog w) A (letOwnedTupleGo (.Tuple elts x1 pos) (.ref (b + rows.length + 2)) (.ref T)) Q E s := by
  unfold letOwnedTupleGo
  refine wpAny_bind (wpAny_load st.zip ?_)
  show wpAny _ _ (if (["enumerate", "zip", "dict_itemiterator", "dict_reverseitemiterator", "odict_iterator", "itertools.zip_longest", "itertools.pairwise"].contains "zip" &&
      (#[f0, .bool f1, .bool false, .ref (b + rows.length), .ref (b + rows.length + 1)] : Array Value)[0]? == some (rawInt T)) = true then _ else _) Q E s
  by_cases hc : (["enumerate", "zip", "dict_itemiterator", "dict_reverseitemiterator", "odict_iterator", "itertools.zip_longest", "itertools.pairwise"].contains "zip" &&
      (#[f0, .bool f1, .bool false, .ref (b + rows.length), .ref (b + rows.length + 1)] : Array Value)[0]? == some (rawInt T)) = true
  · rw [if_pos hc]
    refine wpAny_bind (wpAny_rule ?_)
    show wpAny _ _ (setField (.ref (b + rows.length + 2)) 0 .none) Q E s
    refine wpAny_setField_rec st.zip (by simp) fun h' hz' hs' => hQ h' .none ⟨hz', ?_, ?_, ?_⟩ (.inl rfl) hs'
    · show h'.get? _ = _
      rw [hs'.2 _ (by show (b + rows.length : Nat) ≠ b + rows.length + 2; omega)]; exact st.ti
    · obtain ⟨kept, h1, e⟩ := st.to
      refine ⟨kept, h1, ?_⟩
      show h'.get? _ = _
      rw [hs'.2 _ (by show (b + rows.length + 1 : Nat) ≠ b + rows.length + 2; omega)]; exact e
    · intro k row hk
      have hk' := (List.getElem?_eq_some_iff.mp hk).1
      obtain ⟨o, ho, r⟩ := st.it k row hk
      exact ⟨o, by rw [hs'.2 _ (by show (b + k : Nat) ≠ b + rows.length + 2; omega)]; exact ho, r⟩
  · rw [if_neg hc]
    exact wpAny_pure (hQ s.heap f0 st hf (Heap.SameBut.refl _ _))
end
theorem turn_zip3 {P : Program} {w : World} {K : PySem.W.Frag} {elts : List Expr} {kk : Nat} {tpos : Pos} {b : Nat} {rows : List Addr} (hn : 0 < rows.length) (hn2 : rows.length ≤ 7) (hb : ∀ row ∈ rows, row < b) :
    Turn P w K (.Tuple elts kk tpos) (ItS K rows) (ownZ b rows.length) (b + rows.length + 2) (fun i h => ∃ f0 f1, ZS.St0 h b rows f0 f1 (fun _ => i) ∧ (f0 = .none ∨ ∃ a : Nat, f0 = rawInt a)) where
  mem := (turn_zipS (P := P) (w := w) (K := K) (y := "y") (py := tpos) hn hn2 hb).mem
  obj := (turn_zipS (P := P) (w := w) (K := K) (y := "y") (py := tpos) hn hn2 hb).obj
  keep := (turn_zipS (P := P) (w := w) (K := K) (y := "y") (py := tpos) hn hn2 hb).keep
  done := (turn_zipS (P := P) (w := w) (K := K) (y := "y") (py := tpos) hn hn2 hb).done
  self := (turn_zipS (P := P) (w := w) (K := K) (y := "y") (py := tpos) hn hn2 hb).self
  item := by
    intro X hP hw hK hc i pins s σ H E I hf st hg
    subst hP hw hK
    obtain ⟨f0, f1, st, hfr⟩ := st
    obtain ⟨cv, cu, h1, h2, h3, h4⟩ := cols_of I hg
    have hlt : b + rows.length + 2 < s.heap.objs.size := Heap.lt_size st.zip
    refine ZS.pyNext_item st hfr hn (by omega) hb h3 (fun k row hk => (h4 k row hk).2) fun h' f0' f1' st' hf' hT hsz hoff => ?_
    refine ⟨_, rfl, ?_⟩
    refine go_zipS (s := { s with heap := h' }) st' hf' fun h2' f0'' st'' hf'' sb => ?_
    have hT2 : ZS.TAt h2' s.heap.objs.size cu := by
      show h2'.get? _ = _
      rw [sb.2 _ (by show (s.heap.objs.size : Nat) ≠ b + rows.length + 2; omega)]; exact hT
    have new : ObjOk X.prog X.w (upd H s.heap.objs.size (.tup cv)) h2' s.heap.objs.size (.tup cv) :=
      ⟨Nat.le_trans (show cv.length ≤ 7 by omega) (by decide), cu, h1, ⟨_, hT2, rfl, _, rfl⟩⟩
    have I1 : Inv X pins σ (upd H s.heap.objs.size (.tup cv)) { s with heap := h2' } :=
      I.turnedNew (t' := s.toks) (ch := ownZ b rows.length) (fun c o hb' q => by
        rw [sb.2 c (fun z => hb' (by rw [z]; exact ownZ_mem.mpr (by omega)))]
        exact hoff c o (by rw [ownZ_mem] at hb'; omega) q) hf (Nat.le_refl _) new
    refine ⟨.ref s.heap.objs.size, _, I1, rfl, ⟨_, cv, rfl, I.hok.fresh (Nat.le_refl _), rfl, h2, fun k row hk => (h4 k row hk).1⟩, ⟨f0'', f1', st'', hf''⟩, fun c hcm => ?_⟩
    have hcm2 := hcm
    obtain ⟨k, hk, rfl⟩ := List.mem_map.mp hcm2
    rw [List.mem_range] at hk
    rw [upd_ne (Nat.ne_of_lt (show b + k < s.heap.objs.size by omega))]
    exact (hf _ hcm).1
def iZip3 (K : PySem.W.Frag) (t : TA) : TI := fun σ H R => t σ H fun vs H1 => ∃ (rows : List Addr), vs = rows.map V.ref ∧ 0 < rows.length ∧ rows.length ≤ 7 ∧ (∀ row ∈ rows, ∃ xs, SqT K H1 row xs) ∧ R (ItS K rows) H1
theorem pi_zip3 {X : Cx} {e : Expr} {es : List Expr} {t : TA} {p pos tpos : Pos} {elts : List Expr} {kk : Nat} (hg : Gl X "zip") (hm : X.mg "zip" = none) (ha : PA X (e :: es) t)
    (hs : starEach (e :: es) X.env = (false, eval e X.env) :: starEach es X.env := by rfl) (hpl : (backTo pos (starEach es X.env)).any (·.1) = false := by rfl) :
    PI X (.Tuple elts kk tpos) (.Call (.Name "zip" p) (e :: es) [] pos) (iZip3 X.K t) := by
  refine ⟨fun pins s σ H R I h => ?_⟩
  refine Call_ (ld_blt I hg hm PyProof.Rows.boot_zip (PyProof.Rows.callWith_type1 (thn (ha.run pos pins s σ H _ I h) fun us s2 ⟨vs, H1, I2, rv, rows, ex, hn, hn2, hrows, q⟩ => ?_) hs hpl))
  subst ex
  rw [vals_refs rv]
  have hlt : ∀ row ∈ rows, row < s2.heap.objs.size ∧ ∃ items, s2.heap.IsTuple row items := fun row hr => by
    obtain ⟨xs, hx⟩ := hrows row hr
    obtain ⟨its, _, p1, _⟩ := I2.tuple hx
    obtain ⟨o, ho, _⟩ := id p1
    exact ⟨Heap.lt_size ho, its.toArray, p1⟩
  refine ZS.call_zipN hn2 (fun row hr => (hlt row hr).2) fun h' m => ?_
  refine ZS.pyIter_zip (s := { s2 with heap := h' }) m.1.zip ?_
  have I3 : Inv X pins σ H1 { s2 with heap := h' } := I2.kept (t' := s2.toks) m.2
  refine ⟨s2.heap.objs.size + rows.length + 2, ownZ s2.heap.objs.size rows.length, _, _, H1, rfl, I3, turn_zip3 hn hn2 (fun row hr => (hlt row hr).1), ⟨.none, false, m.1, .inl rfl⟩, fun c hcm => ?_, q⟩
  have hle := (ownZ_mem.mp hcm).1
  exact I2.fpOk hle (I2.hok.fresh hle)
end Pv

namespace Pv
open PySem PySem.Spec PyProof.Rows L2
/-! zip of a list and two tuples under a tuple pattern -/
abbrev rowsQ (a b c : Addr) : List (Bool × Addr) := [(true, a), (false, b), (false, c)]
abbrev kdQ (a b c : Addr) : Nat → Bool := ZM.kdR (rowsQ a b c)
theorem go_zipQ {prog : Program} {w : World} {A : Around} {E : Value → Shared → Prop} {s : Shared} {elts : List Expr} {x1} {pos : Pos} {b : Nat} {rows : List Addr} {f0 : Value} {f1 : Bool} {at_ : Nat → Nat} {T : Addr} {Q : Unit → Shared → Prop} {kd : Nat → Bool} (st : ZM.St0 kd s.heap b rows f0 f1 at_) (hf : f0 = .none ∨ ∃ a : Nat, f0 = rawInt a)
    (hQ : ∀ h' f0', ZM.St0 kd h' b rows f0' f1 at_ → (f0' = .none ∨ ∃ a : Nat, f0' = rawInt a) → Heap.SameBut (b + rows.length + 2) s.heap h' → Q () { s with heap := h' }) :
    wpAny (model prog w) A (letOwnedTupleGo (.Tuple elts x1 pos) (.ref (b + rows.length + 2)) (.ref T)) Q E s := by
  unfold letOwnedTupleGo
  refine wpAny_bind (wpAny_load st.zip ?_)
  generalize hg : (["enumerate", "zip", "dict_itemiterator", "dict_reverseitemiterator", "odict_iterator", "itertools.zip_longest", "itertools.pairwise"].contains "zip" &&
      (#[f0, .bool f1, .bool false, .ref (b + rows.length), .ref (b + rows.length + 1)] : Array Value)[0]? == some (rawInt T)) = cnd
  show wpAny _ _ (if (["enumerate", "zip", "dict_itemiterator", "dict_reverseitemiterator", "odict_iterator", "itertools.zip_longest", "itertools.pairwise"].contains "zip" &&
      (#[f0, .bool f1, .bool false, .ref (b + rows.length), .ref (b + rows.length + 1)] : Array Value)[0]? == some (rawInt T)) = true then _ else _) Q E s
  rw [hg]
  cases cnd with
  | true =>
    rw [if_pos rfl]
    refine wpAny_bind (wpAny_rule ?_)
    refine wpAny_setField_rec st.zip (by simp) fun h' hz' hs' => hQ h' .none ⟨hz', ?_, ?_, fun k row hk => ?_⟩ (.inl rfl) hs'
    · have e : (show Addr from b + rows.length) ≠ b + rows.length + 2 := ZM.ne_nat (by omega)
      exact (hs'.2 _ e).trans st.ti
    · obtain ⟨kept, l1, e1⟩ := st.to
      have e : (show Addr from b + rows.length + 1) ≠ b + rows.length + 2 := ZM.ne_nat (by omega)
      exact ⟨kept, l1, (hs'.2 _ e).trans e1⟩
    · have hk' := (List.getElem?_eq_some_iff.mp hk).1
      obtain ⟨o, ho, r⟩ := st.it k row hk
      have e : (show Addr from b + k) ≠ b + rows.length + 2 := ZM.ne_nat (by omega)
      exact ⟨o, (hs'.2 _ e).trans ho, r⟩
  | false =>
    rw [if_neg Bool.false_ne_true]
    exact wpAny_pure (hQ s.heap f0 st hf (Heap.SameBut.refl _ _))
def ItQ (K : PySem.W.Frag) (a b c : Addr) : It :=
  ⟨fun i H => ∃ (xs ys zs : List V) (x y z : V), (SqL K H a xs ∧ SqT K H b ys ∧ SqT K H c zs) ∧ xs[i]? = some x ∧ ys[i]? = some y ∧ zs[i]? = some z,
    fun i H v H' => ∃ (T : Addr) (x y z : V), v = .ref T ∧ H T = none ∧ H' = upd H T (.tup [x, y, z]) ∧ (∀ xs, SqL K H a xs → xs[i]? = some x) ∧ (∀ ys, SqT K H b ys → ys[i]? = some y) ∧ ∀ zs, SqT K H c zs → zs[i]? = some z,
    fun i H => ∃ xs, SqL K H a xs ∧ xs.length ≤ i⟩
theorem turn_zipQ {P : Program} {w : World} {K : PySem.W.Frag} {elts : List Expr} {kk : Nat} {tpos : Pos} {b : Nat} {l t u : Addr} (hl : l < b) (ht : t < b) (hu : u < b) :
    Turn P w K (.Tuple elts kk tpos) (ItQ K l t u) (ownZ b 3) (b + 5) (fun i h => ∃ f0 f1, ZM.St0 (kdQ l t u) h b [l, t, u] f0 f1 (fun _ => i) ∧ (f0 = .none ∨ ∃ a : Nat, f0 = rawInt a)) where
  mem := ownZ_mem.mpr (by omega)
  obj := by
    rintro i h ⟨f0, f1, st, _⟩ c hc
    obtain ⟨k, hk, rfl⟩ := List.mem_map.mp hc
    rw [List.mem_range] at hk
    match k, hk with
    | 0, _ => obtain ⟨o, ho, _, hd⟩ := st.it 0 l rfl; exact ⟨o, ho, fun v q => by rw [hd] at q; cases q⟩
    | 1, _ => obtain ⟨o, ho, _, hd⟩ := st.it 1 t rfl; exact ⟨o, ho, fun v q => by rw [hd] at q; cases q⟩
    | 2, _ => obtain ⟨o, ho, _, hd⟩ := st.it 2 u rfl; exact ⟨o, ho, fun v q => by rw [hd] at q; cases q⟩
    | 3, _ => exact ⟨_, st.ti, fun v q => nomatch q⟩
    | 4, _ => obtain ⟨kept, _, e⟩ := st.to; exact ⟨_, e, fun v q => nomatch q⟩
    | 5, _ => exact ⟨_, st.zip, fun v q => nomatch q⟩
    | k + 6, h => omega
  keep := by
    rintro i h h' ⟨f0, f1, st, hf⟩ k
    have k' : ∀ c, b ≤ c → c ≤ b + 3 + 2 → ∀ o, h.get? c = some o → h'.get? c = some o := fun c q1 q2 o e => k c (ownZ_mem.mpr ⟨q1, q2⟩) o e
    refine ⟨f0, f1, ⟨k' _ (by simp; omega) (by simp) _ st.zip, k' _ (by simp) (by simp) _ st.ti, ?_, fun j row hj => ?_⟩, hf⟩
    · obtain ⟨kept, q1, e⟩ := st.to
      exact ⟨kept, q1, k' _ (by simp; omega) (by simp) _ e⟩
    · have hj' : j < 3 := (List.getElem?_eq_some_iff.mp hj).1
      obtain ⟨o, ho, r⟩ := st.it j row hj
      exact ⟨o, k' _ (by omega) (by omega) _ ho, r⟩
  item := by
    intro X hP hw hK hc i pins s σ H E I hf st hg
    subst hP hw hK
    obtain ⟨f0, f1, st, hfr⟩ := st
    obtain ⟨xs, ys, zs, x, y0, z0, ⟨q1, q2, q3⟩, hx, hy, hz⟩ := hg
    obtain ⟨i1, rv1, p1, _⟩ := I.list q1
    obtain ⟨i2, rv2, p2, _⟩ := I.tuple q2
    obtain ⟨i3, rv3, p3, _⟩ := I.tuple q3
    obtain ⟨u1, hu1, ru1⟩ := rv1.get hx
    obtain ⟨u2, hu2, ru2⟩ := rv2.get hy
    obtain ⟨u3, hu3, ru3⟩ := rv3.get hz
    have hlt : b + 3 + 2 < s.heap.objs.size := Heap.lt_size st.zip
    refine ZM.pyNext_item (rows := [l, t, u]) (col := [u1, u2, u3]) st hfr (by simp) (by simp) (fun row hr => ?_) rfl (fun k row hk => ?_) fun h' f0' f1' st' hf' hT hsz hoff => ?_
    · simp only [List.mem_cons, List.not_mem_nil, or_false] at hr
      rcases hr with rfl | rfl | rfl <;> assumption
    · match k, hk with
      | 0, hk => cases hk; exact ⟨i1.toArray, u1, p1.isList, by simpa using hu1, rfl⟩
      | 1, hk => cases hk; exact ⟨i2.toArray, u2, p2, by simpa using hu2, rfl⟩
      | 2, hk => cases hk; exact ⟨i3.toArray, u3, p3, by simpa using hu3, rfl⟩
      | k + 3, hk => simp at hk
    refine ⟨_, rfl, ?_⟩
    refine go_zipQ (s := { s with heap := h' }) st' hf' fun hb' f0'' st'' hf'' sb => ?_
    have hT2 : ZS.TAt hb' s.heap.objs.size [u1, u2, u3] := by
      have e : (show Addr from s.heap.objs.size) ≠ b + [l, t, u].length + 2 := ZM.ne_nat (by show ¬ (s.heap.objs.size = b + 3 + 2); omega)
      exact (sb.2 _ e).trans hT
    have new : ObjOk X.prog X.w (upd H s.heap.objs.size (.tup [x, y0, z0])) hb' s.heap.objs.size (.tup [x, y0, z0]) :=
      ⟨(by decide : (3 : Nat) ≤ sizeLine), [u1, u2, u3], .cons ru1 (.cons ru2 (.cons ru3 .nil)), ⟨_, hT2, rfl, _, rfl⟩⟩
    have I1 : Inv X pins σ (upd H s.heap.objs.size (.tup [x, y0, z0])) { s with heap := hb' } :=
      I.turnedNew (t' := s.toks) (ch := ownZ b 3) (fun c o hc' q => by
        rw [ownZ_mem] at hc'
        have e : (show Addr from c) ≠ b + [l, t, u].length + 2 := ZM.ne_nat (fun z => hc' (by rw [z]; exact ⟨by show b ≤ b + 3 + 2; omega, by simp⟩))
        exact (sb.2 c e).trans (hoff c o (by simp; omega) q)) hf (Nat.le_refl _) new
    refine ⟨.ref s.heap.objs.size, _, I1, rfl, ⟨_, x, y0, z0, rfl, I.hok.fresh (Nat.le_refl _), rfl, fun m hm => by rw [I.list_inj hm q1]; exact hx, fun m hm => by rw [I.tuple_inj hm q2]; exact hy, fun m hm => by rw [I.tuple_inj hm q3]; exact hz⟩, ⟨f0'', f1', st'', hf''⟩, fun c hcm => ?_⟩
    have hcm2 := hcm
    obtain ⟨k, hk, rfl⟩ := List.mem_map.mp hcm2
    rw [List.mem_range] at hk
    rw [upd_ne (Nat.ne_of_lt (show b + k < s.heap.objs.size by omega))]
    exact (hf _ hcm).1
  done := by
    intro X hP hw hK hc i pins s σ H E I hf st hg
    subst hP hw hK
    obtain ⟨f0, f1, st, hfr⟩ := st
    obtain ⟨xs, q1, hle⟩ := hg
    obtain ⟨its, rv, p, _⟩ := I.list q1
    have l1 := rv.length
    exact ZM.pyNext_end (rows := [l, t, u]) (items := its.toArray) (I.ok.hd hc) st hfr rfl hl p.isList (by simp; omega) fun h' hoff => ⟨rfl, I.turnedL (t' := s.toks) (ch := ownZ b 3) (fun c o hc' q => hoff c o (by rw [ownZ_mem] at hc'; simp; omega) q) hf⟩
  self := by
    rintro A i s Q E ⟨f0, f1, st, _⟩ h
    exact ZM.pyIter_zip st.zip h
def iZipQ (K : PySem.W.Frag) (ta : TA) : TI := fun σ H R => ta σ H fun vs H1 => ∃ a b c xs ys zs, vs = [.ref a, .ref b, .ref c] ∧ SqL K H1 a xs ∧ SqT K H1 b ys ∧ SqT K H1 c zs ∧ R (ItQ K a b c) H1
theorem pi_zipQ {X : Cx} {e1 e2 e3 : Expr} {ta : TA} {p pos tpos : Pos} {elts : List Expr} {kk : Nat} (hg : Gl X "zip") (hm : X.mg "zip" = none) (ha : PA X [e1, e2, e3] ta)
    (hs : starEach [e1, e2, e3] X.env = (false, eval e1 X.env) :: starEach [e2, e3] X.env := by rfl) (hpl : (backTo pos (starEach [e2, e3] X.env)).any (·.1) = false := by rfl) :
    PI X (.Tuple elts kk tpos) (.Call (.Name "zip" p) [e1, e2, e3] [] pos) (iZipQ X.K ta) := by
  refine ⟨fun pins s σ H R I h => Call_ (ld_blt I hg hm PyProof.Rows.boot_zip (PyProof.Rows.callWith_type1 (thn (ha.run pos pins s σ H _ I h) ?_) hs hpl))⟩
  rintro us s1 ⟨vs, H1, I1, r1, a, b, c, xs, ys, zs, rfl, q1, q2, q3, q⟩
  rw [vals_refs (rows := [a, b, c]) r1]
  obtain ⟨i1, rv1, p1, _⟩ := I1.list q1
  obtain ⟨i2, rv2, p2, _⟩ := I1.tuple q2
  obtain ⟨i3, rv3, p3, _⟩ := I1.tuple q3
  refine ZM.call_zipN (rows := rowsQ a b c) (by simp) (fun row hr => ?_) fun h' m => ?_
  · simp only [List.mem_cons, List.not_mem_nil, or_false] at hr
    rcases hr with rfl | rfl | rfl
    · exact ⟨i1.toArray, p1.isList⟩
    · exact ⟨i2.toArray, p2⟩
    · exact ⟨i3.toArray, p3⟩
  obtain ⟨st, k⟩ := m
  refine ZM.pyIter_zip st.zip ?_
  have I2 : Inv X pins σ H1 { s1 with heap := h' } := I1.kept (t' := s1.toks) k
  refine ⟨s1.heap.objs.size + 5, ownZ s1.heap.objs.size 3, _, _, H1, rfl, I2, turn_zipQ p1.lt (tupLt p2) (tupLt p3), ⟨.none, false, st, .inl rfl⟩, fun d hd => ?_, q⟩
  have hle := (ownZ_mem.mp hd).1
  exact I1.fpOk hle (I1.hok.fresh hle)
def YTri (f g h : Nat → Option V) : Nat → Hp → V → Hp → Prop := fun i H v H' => ∃ T x y z, v = .ref T ∧ H T = none ∧ H' = upd H T (.tup [x, y, z]) ∧ f i = some x ∧ g i = some y ∧ h i = some z
theorem walk_zipQ {K : PySem.W.Frag} {a b c : Addr} {xs ys zs : List V} (h1 : ys.length = xs.length) (h2 : zs.length = xs.length) :
    Walk (ItQ K a b c) xs.length (fun H => SqL K H a xs ∧ SqT K H b ys ∧ SqT K H c zs) (YTri (fun i => xs[i]?) (fun i => ys[i]?) (fun i => zs[i]?)) := by
  constructor
  · rintro i H hi ⟨q1, q2, q3⟩
    exact ⟨xs, ys, zs, xs[i], ys[i]'(by omega), zs[i]'(by omega), ⟨q1, q2, q3⟩, List.getElem?_eq_getElem hi, List.getElem?_eq_getElem (by omega), List.getElem?_eq_getElem (by omega)⟩
  · rintro H ⟨q1, q2, q3⟩
    exact ⟨xs, q1, Nat.le_refl _⟩
  · rintro i H v H' _ ⟨q1, q2, q3⟩ ⟨T, x, y, z, e1, e2, e3, e4, e5, e6⟩
    exact ⟨T, x, y, z, e1, e2, e3, e4 xs q1, e5 ys q2, e6 zs q3⟩
end Pv

namespace Pv
open PySem PySem.Spec PyProof.Rows L2
/-! errors of the program's own classes -/
abbrev VEbm : List Value := [.type "ValueError", .type "Exception", .type "BaseException", .type "object"]
theorem pmk_own0 {X : Cx} {C : Addr} {bmB : List Value} {B newId initId : String} {x : Str} {p pos : Pos} (F : ExcBaseFacts B newId initId bmB) (q : PySem.W.excIn X.K C bmB newId = true) (gC : X.mg x = some (.ref C))
    (kC : PySem.W.keepIn X.K (.ref C) = true) (r : Raises X (.ref C)) (hg : Gl X x) (hdb : (x == ("__debug__" : Str)) = false := by decide) :
    PMk X (.Call (.Name x p) [] [] pos) (fun _ H Q => Q (.ref C) none H) := by
  intro pins s σ H Q I h
  refine wpAny_Call_Name_kw (ld_glob I hg gC ?_ hdb)
  refine PySem.W.callWith_K0 I.kIn kC ?_
  obtain ⟨bm, N, nm, qn, bs, hdct, sn, sub, ab, col, dd, k0, k1, k2, k3, k5, mN, hC, hN, hni, T⟩ := exc_obj I.kIn q
  show wpAny _ _ (call (.ref C) []) _ _ _
  refine wpAny_call_exc_subT F T hC hN hni (fun h' e hm => ?_) (Nat.zero_le _)
  exact mk_of I hm r h (I.hok.gone hm.new)
/-- what is asked of a class whose errors isinstance is asked of -/
structure IsC (K : PySem.W.Frag) (D : Addr) : Prop where
  cl : (PySem.W.clsIn K D).isSome = true
  hg : PySem.W.findIn K (.ref D) "__getattribute__" = some (some (.builtin "BaseException.__getattribute__"))
  hk : PySem.W.findIn K (.ref D) "__getattr__" = some none
  hs : PySem.W.subIn K (.ref D) (.type "BaseException") = some true
  ty : PySem.W.typeIn K (.ref D) = some (.type "type")
  ha : PySem.W.findIn K (.ref D) "__class__" = some (some (.builtin "object.__class__"))
  hn : PySem.W.specialIn K (.builtin "object.__class__") "__get__" = some (some (.builtin "getset_descriptor.__get__"))
  ht : PySem.W.takesIn K (.builtin "object.__class__") = some true
  hm : PySem.W.mroIn K D (.type "object") = some true
  kp : PySem.W.keepIn K (.ref D) = true
def isCB (K : PySem.W.Frag) (D : Addr) : Bool :=
  (PySem.W.clsIn K D).isSome && (decide (PySem.W.findIn K (.ref D) "__getattribute__" = some (some (.builtin "BaseException.__getattribute__"))) && (decide (PySem.W.findIn K (.ref D) "__getattr__" = some none) &&
  (decide (PySem.W.subIn K (.ref D) (.type "BaseException") = some true) && (decide (PySem.W.typeIn K (.ref D) = some (.type "type")) && (decide (PySem.W.findIn K (.ref D) "__class__" = some (some (.builtin "object.__class__"))) &&
  (decide (PySem.W.specialIn K (.builtin "object.__class__") "__get__" = some (some (.builtin "getset_descriptor.__get__"))) && (decide (PySem.W.takesIn K (.builtin "object.__class__") = some true) &&
  (decide (PySem.W.mroIn K D (.type "object") = some true) && PySem.W.keepIn K (.ref D)))))))))
theorem isCB_ok {K : PySem.W.Frag} {D : Addr} (h : isCB K D = true) : IsC K D := by
  simp only [isCB, Bool.and_eq_true, decide_eq_true_eq] at h
  obtain ⟨h1, h2, h3, h4, h5, h6, h7, h8, h9, h10⟩ := h
  exact ⟨h1, h2, h3, h4, h5, h6, h7, h8, h9, h10⟩
theorem IsC.raises {X : Cx} {D : Addr} (c : IsC X.K D) : Raises X (.ref D) := raises_own c.hs c.ty
/-- isinstance(e, c), e the error that the suite holds, c a class or a tuple of classes -/
def rIsX (K : PySem.W.Frag) (a : Addr) (cls : Value) (d : Option Addr) : RC := fun xs H Q => ∃ (D : Addr) (c : V) (b : Bool), cls = .ref D ∧ IsC K D ∧ (∀ dx, d = some dx → ∃ fs, H dx = some (.xd fs)) ∧ xs = [.ref a, c] ∧
  ((∃ u, ClsV c u ∧ PySem.W.kitOne K (.ref D) u = some b) ∨ ∃ (tp : Addr) (cs : List V) (us : List Value), c = .ref tp ∧ H tp = some (.tup cs) ∧ Paired ClsV cs us ∧ PySem.W.kitAny K (.ref D) us = some b) ∧ Q (.bl b) H
theorem call_isX {X : Cx} {a : Addr} {oe : Obj} {cls : Value} {d : Option Addr} {pn : List (Addr × Obj)} (hz : Zc cls d oe) (hf : ∃ vs, oe.data = .fields vs) : CallR (X.suite a ((a, oe) :: pn)) (.builtin "isinstance") (rIsX X.K a cls d) := by
  intro pins s σ H xs us Q I r h
  obtain ⟨D, c, b, rfl, C, hdx, rfl, hc, q⟩ := h
  obtain ⟨u1, u2, rfl, r1, r2⟩ := vals2 r
  cases (show u1 = Value.ref a from r1)
  obtain ⟨hget, _⟩ := I.pin (a, oe) (List.mem_append.mpr (.inl List.mem_cons_self))
  obtain ⟨vs, hv⟩ := hf
  have J : ∃ od, PySem.W.InstAt s.heap a oe D od := by
    cases d with
    | none =>
      refine ⟨none, hget, hz.1, by unfold PySem.W.notCls; rw [hv] <;> rfl, ?_⟩
      rw [hz.2]; trivial
    | some dx =>
      obtain ⟨fs, e⟩ := hdx dx rfl
      have hx : ObjOk X.prog X.w H s.heap dx (.xd fs) := I.hok dx _ e
      obtain ⟨mA, hns, _⟩ := hx
      obtain ⟨od, ho, _⟩ := lookIn_ns hns
      exact ⟨some od, hget, hz.1, by unfold PySem.W.notCls; rw [hv] <;> rfl, by rw [hz.2]; exact ho⟩
  obtain ⟨od, J⟩ := J
  have Z := PySem.W.kitx_exc (K := X.K) (x := a) (C := D) (ox := oe) (od := od) C.cl C.hg C.hk C.hs C.ha C.hn C.ht C.hm
  rcases hc with ⟨u, ku, e⟩ | ⟨tp, cs, ws, rfl, hT, ks, e⟩
  · have e2 := ku.eq r2
    subst e2
    exact PySem.W.kia_one Z I.kIn J e (fun z => nomatch z) fun tk => ⟨.bl b, H, I.kept (t' := tk) fun _ _ z => z, rfl, q⟩
  · cases (show u2 = Value.ref tp from r2)
    obtain ⟨_, its, rv, o, h1, h2, n, h3⟩ := (show ObjOk X.prog X.w H s.heap tp (.tup cs) from I.hok tp _ hT)
    have e3 := ClsV.all ks rv
    subst e3
    obtain ⟨oc, od', dt, sl⟩ := o
    simp only at h2 h3
    subst h2 h3
    exact PySem.W.kia_tup Z I.kIn J h1 e (fun z => nomatch z) fun tk => ⟨.bl b, H, I.kept (t' := tk) fun _ _ z => z, rfl, q⟩
end Pv

/-! sorted(t), set(t), len(set(t)) of a tuple of ints -/
namespace PyProof.Rows
open PySem
section
variable {prog : Program} {w : World} {A : Around} {E : Value → Shared → Prop} {s : Shared}
theorem pv_collectTup {l : Addr} {vs : List Value} {Q : List Value → Shared → Prop} (hl : s.heap.IsTuple l vs.toArray) (hsz : vs.length ≤ sizeLine)
    (h : Q vs { s with heap := (s.heap.push (seqObj "list" #[] 0)).update s.heap.objs.size (Obj.mapSeq (· ++ vs.toArray)) }) : wpAny (model prog w) A (collect (.ref l)) Q E s := by
  obtain ⟨o, ho, hc, n, hd⟩ := id hl
  have ho1 : (s.heap.push (seqObj "list" #[] 0)).get? l = some o := Heap.get?_push_of_some _ ho
  have htt : (Value.type "tuple" == Value.type "tuple") = true := by rfl
  unfold collect; refine wpAny_bind (wpAny_runValue (codeAny_builtin entry_proto_collect' ?_))
  show wpAny _ _ (do again (.builtin "list.__iadd__" ⟨[← newList [], .ref l], []⟩)) _ _ _
  refine wpAny_bind (wpAny_newList (wpAny_pure ⟨Code.quiet_builtin _ (by decide +kernel), codeAny_builtin entry_list_iadd' ?body⟩))
  case body =>
    show wpAny _ _ (Builtin.List.listExtendWith (.ref s.heap.objs.size) (.ref l) (.ref s.heap.objs.size)) _ _ { s with heap := s.heap.push (seqObj "list" #[] 0), toks := s.toks }
    unfold Builtin.List.listExtendWith; refine wpAny_bind (wpAny_typeOf (T := "tuple") ⟨o, ho1, hc⟩ ?_)
    rw [if_pos (by rw [htt]; simp)]; refine wpAny_bind (listItems_at ho1 hd (wpAny_bind (listItems_at (xs := #[]) (n := 0) (Heap.get?_push_size _ rfl) rfl ?_)))
    rw [if_neg (by simp)]; refine wpAny_bind (listUpdate_at (xs := #[]) (n := 0) (Heap.get?_push_size _ rfl) rfl (wpAny_pure ?_) (Nat.zero_le _) (by show (#[] ++ vs.toArray).size ≤ sizeLine + 1; simp only [Array.size_append, List.size_toArray, List.length_nil]; omega))
    show wpAny (model prog w) A (do match (← load s.heap.objs.size).data with | .seq xs _ => pure xs.toList | _ => unsupported "internal:collect") Q E { s with heap := (s.heap.push (seqObj "list" #[] 0)).update s.heap.objs.size (Obj.mapSeq (· ++ vs.toArray)), toks := s.toks }
    refine wpAny_bind (wpAny_load (get?_update_seq (Heap.get?_push_size _ rfl) _) ?_)
    show wpAny _ _ (pure ((#[] : Array Value) ++ vs.toArray).toList) Q E { s with heap := _ }
    rw [show ((#[] : Array Value) ++ vs.toArray).toList = vs by simp]; exact wpAny_pure h
theorem pv_sortedTup {l : Addr} {vs : List Value} {ns : List Int} {Q : Value → Shared → Prop} (hl : s.heap.IsTuple l vs.toArray) (hI : IntsAre vs ns) (h64 : vs.length < 64)
    (h : ∀ (out : Array Value) (ns' : List Int), IntsAre out.toList ns' → ns'.Perm ns → ns'.Pairwise (· ≤ ·) → Q (.ref (s.heap.objs.size + 1)) { s with heap := sortedAll s.heap vs out }) :
    wpAny (model prog w) A (call (.builtin "sorted") [.ref l]) Q E s := by
  refine Calls.call_function_entry kind_sorted plain_sorted entry_sorted (args_sorted1 _) ?tree
  case tree =>
    unfold Builtin.«sorted»; refine wpAny_bind (m := checkCount "sorted" 1 1 _) (wpAny_pure (wpAny_bind (pv_collectTup hl (by rw [sizeLine_eq]; omega) (wpAny_bind (wpAny_newList ?new (by rw [sizeLine_eq]; omega))))))
    case new =>
      have e1 : ((s.heap.push (seqObj "list" #[] 0)).update s.heap.objs.size (Obj.mapSeq (· ++ vs.toArray))).objs.size = s.heap.objs.size + 1 := by rw [Heap.size_update, size_push']
      have e2 : (((s.heap.push (seqObj "list" #[] 0)).update s.heap.objs.size (Obj.mapSeq (· ++ vs.toArray))).push (seqObj "list" vs.toArray 0)).get? (s.heap.objs.size + 1) = some (seqObj "list" vs.toArray 0) := by rw [← e1]; exact Heap.get?_push_size _ rfl
      show wpAny _ _ _ _ _ { s with heap := ((s.heap.push (seqObj "list" #[] 0)).update s.heap.objs.size (Obj.mapSeq (· ++ vs.toArray))).push (seqObj "list" vs.toArray 0), toks := s.toks }
      rw [e1]; exact wpAny_bind (wpAny_holding (wpAny_call_entry slot_list_sort ⟨_, e2, rfl⟩ entry_list_sort (list_sort_tree e2 hI h64 fun out ns' a1 a2 a3 => ⟨_, rfl, wpAny_pure ⟨_, rfl, h out ns' a1 a2 a3⟩⟩) (args_list_sort _)))
end
end PyProof.Rows
namespace Pv
open PySem PySem.Spec PyProof.Rows L2
section
variable {X : Cx}
def rSortedT (K : PySem.W.Frag) : RC := fun vs H Q => ∃ (a : Addr) (ns : List Int), vs = [V.ref a] ∧ SqT K H a (ns.map V.int) ∧ ns.length < 64 ∧
  ∀ (ns' : List Int) (p : Addr), ns'.Perm ns → ns'.Pairwise (· ≤ ·) → H p = none → Q (.ref p) (upd H p (.lst (ns'.map V.int)))
theorem cr_sortedT : CallR X (.builtin "sorted") (rSortedT X.K) := by
  intro pins s σ H vs us Q I rel h
  obtain ⟨a, ns, e, hs, h64, q⟩ := h
  subst e
  obtain ⟨its, rv, ht, hz⟩ := I.tuple hs
  rw [Vals.ref1 rel]
  have hi := rv.ints
  refine pv_sortedTup (show s.heap.IsTuple a its.toArray from ht) hi (by rw [hi.length]; exact h64) ?_
  intro out ns' h1 h2 h3
  obtain ⟨ep, he⟩ := PyProof.Rows.sortedAll_at s.heap its out
  have hlen : (ns'.map V.int).length ≤ sizeLine := by rw [List.length_map, h2.length_eq, sizeLine_eq]; omega
  exact ⟨.ref _, _, I.laid (a := s.heap.objs.size + 1) (o := .lst (ns'.map V.int)) (t' := s.toks) (fun _ _ => PyProof.Rows.sortedAll_old) (Nat.le_succ _) ⟨hlen, out.toList, ep, vals_of_ints h1, he⟩, rfl, q ns' _ h2 h3 (I.hok.fresh (Nat.le_succ _))⟩
def rSetT (w : World) (K : PySem.W.Frag) : RC := fun vs H Q => ∃ (a : Addr) (ns : List Int), vs = [V.ref a] ∧ SqT K H a (ns.map V.int) ∧ ns.length < 60 ∧
  ∀ (p : Addr) (c : Nat), H p = none → (∃ ks : List Int, ks.Nodup ∧ (∀ k, k ∈ ks ↔ k ∈ ns) ∧ ks.length = c) → c ≤ ns.length → Q (.ref p) (upd H p (SetO w p (fun j => decide (j ∈ ns)) c))
theorem cr_setT (hc : X.calm = true) : CallR X (.type "set") (rSetT X.w X.K) := by
  intro pins s σ H vs us Q I rel h
  obtain ⟨a, ns, e, hs, h60, q⟩ := h
  subst e
  obtain ⟨its, rv, ht, hz⟩ := I.tuple hs
  rw [Vals.ref1 rel]
  have hi := rv.ints
  have hsb : scanBound > 61 := by decide
  refine call_set_tupI ns (I.ok.hd hc) (show s.heap.IsTuple a its.toArray from ht) (by simpa using hi) (by omega) ?_
  intro h' tk c R hcn kp
  refine ⟨.ref s.heap.objs.size, _, I.laid (a := s.heap.objs.size) (o := SetO X.w s.heap.objs.size (fun j => decide (j ∈ ns)) c) (t' := tk) kp (Nat.le_refl _) (setO_new R), rfl, q _ c (I.hok.fresh (Nat.le_refl _)) ?_ hcn⟩
  obtain ⟨o, es, ep, t, _, _, _, _, nd, hm, _, _, hn, _⟩ := R
  exact ⟨es.toList.map keyOf, nd, fun k => by rw [← hm k]; simp, by rw [List.length_map, Array.length_toList]; exact hn⟩
def rLenS' (w : World) : RC := fun vs H Q => ∃ (a : Addr) (S : Int → Bool) (n : Nat), vs = [V.ref a] ∧ H a = some (SetO w a S n) ∧ Q (.int n) H
theorem cr_lenSet : CallR X (.builtin "len") (rLenS' X.w) := by
  intro pins s σ H vs us Q I rel h
  obtain ⟨a, S, n, e, ha, q⟩ := h
  subst e
  rw [Vals.ref1 rel]
  obtain ⟨o, es, ep, t, ho, hx, hd, _, _, _, hb, hf, hn, _⟩ := setO_get I ha
  subst hn
  have hsb : scanBound < 2 ^ 62 := by decide
  exact call_len_set ho hx hd hf (by omega) ⟨.int _, H, I.tok _, ⟨_, rfl⟩, q⟩
end
/-! what the size of the set tells -/
theorem len_sub : ∀ {ks ns : List Int}, ks.Nodup → (∀ k ∈ ks, k ∈ ns) → ks.length ≤ ns.length
  | [], _, _, _ => Nat.zero_le _
  | k :: ks, ns, nd, h => by
    obtain ⟨n1, n2⟩ := List.nodup_cons.mp nd
    have hk := h k (by simp)
    have h1 := len_sub (ks := ks) (ns := ns.erase k) n2 (fun x hx => by
      have hne : x ≠ k := fun z => n1 (by rw [← z]; exact hx)
      exact (List.mem_erase_of_ne hne).mpr (h x (by simp [hx])))
    rw [List.length_erase_of_mem hk] at h1
    have := List.length_pos_of_mem hk
    rw [List.length_cons]; omega
theorem len_nodup : ∀ {ns ks : List Int}, ks.Nodup → (∀ k, k ∈ ks ↔ k ∈ ns) → (ks.length = ns.length ↔ ns.Nodup) := by
  intro ns ks nd hm
  constructor
  · intro hl
    induction ns generalizing ks with
    | nil => exact List.nodup_nil
    | cons n ns ih =>
      have hn : n ∈ ks := (hm n).mpr (by simp)
      have hnot : n ∉ ns := by
        intro hin
        have := len_sub nd (ns := ns) (fun k hk => by
          rcases List.mem_cons.mp ((hm k).mp hk) with rfl | h
          · exact hin
          · exact h)
        rw [List.length_cons] at hl; omega
      refine List.nodup_cons.mpr ⟨hnot, ih (ks := ks.erase n) (nd.erase n) (fun k => ?_) ?_⟩
      · rw [nd.mem_erase_iff, hm k, List.mem_cons]
        constructor
        · rintro ⟨h1, h2 | h2⟩
          · exact absurd h2 h1
          · exact h2
        · intro h
          exact ⟨fun z => hnot (z ▸ h), .inr h⟩
      · rw [List.length_erase_of_mem hn, hl, List.length_cons]; rfl
  · intro hn
    exact Nat.le_antisymm (len_sub nd fun k hk => (hm k).mp hk) (len_sub hn fun k hk => (hm k).mpr hk)
theorem lt_unique : ∀ {as bs : List Int}, as.Pairwise (· < ·) → bs.Pairwise (· < ·) → (∀ k, k ∈ as ↔ k ∈ bs) → as = bs
  | [], [], _, _, _ => rfl
  | [], b :: bs, _, _, h => by have := (h b).mpr (by simp); cases this
  | a :: as, [], _, _, h => by have := (h a).mp (by simp); cases this
  | a :: as, b :: bs, ha, hb, h => by
    obtain ⟨a1, a2⟩ := List.pairwise_cons.mp ha
    obtain ⟨b1, b2⟩ := List.pairwise_cons.mp hb
    have e : a = b := by
      rcases List.mem_cons.mp ((h a).mp (by simp)) with h1 | h1
      · exact h1
      · rcases List.mem_cons.mp ((h b).mpr (by simp)) with h2 | h2
        · exact h2.symm
        · have := b1 a h1; have := a1 b h2; omega
    subst e
    rw [lt_unique a2 b2 (fun k => ?_)]
    constructor
    · intro hk
      rcases List.mem_cons.mp ((h k).mp (List.mem_cons_of_mem _ hk)) with h1 | h1
      · have := a1 k hk; omega
      · exact h1
    · intro hk
      rcases List.mem_cons.mp ((h k).mpr (List.mem_cons_of_mem _ hk)) with h1 | h1
      · have := b1 k hk; omega
      · exact h1
theorem sort_nodup {ns ns' ms : List Int} (hp : ns'.Perm ns) (hs : ns'.Pairwise (· ≤ ·)) (hm : ms.Pairwise (· < ·)) (h : ∀ k, k ∈ ms ↔ k ∈ ns) : ns' = ms ↔ ns.Nodup := by
  constructor
  · intro e
    subst e
    exact hp.nodup_iff.mp (hm.imp fun {a b} h => by omega)
  · intro hn
    have hn' : ns'.Nodup := hp.nodup_iff.mpr hn
    refine lt_unique ?_ hm (fun k => by rw [hp.mem_iff, h k])
    exact (hs.and hn').imp fun {a b} h => by have := h.1; have := h.2; omega
end Pv

namespace Pv
open PySem PySem.Spec PyProof.Rows L2
abbrev zn1 (h : Heap) (l1 : Addr) : Heap := h.push { cls := .type "tuple_iterator", data := .fields #[.ref l1, .int 0 0] }
abbrev zn2 (h : Heap) (l1 l2 : Addr) : Heap := (zn1 h l1).push { cls := .type "list_iterator", data := .fields #[.ref l2, .int 0 0] }
abbrev zn3 (h : Heap) (l1 l2 : Addr) : Heap := (zn2 h l1 l2).push { cls := .type "tuple", data := .seq #[.ref h.objs.size, .ref (zn1 h l1).objs.size] }
abbrev zn4 (h : Heap) (l1 l2 : Addr) : Heap := (zn3 h l1 l2).push { cls := .type "tuple", data := .seq #[.none, .none] }
abbrev zn5 (h : Heap) (l1 l2 : Addr) : Heap := (zn4 h l1 l2).push { cls := .type "zip", data := .fields #[.none, .bool false, .bool false, .ref (zn2 h l1 l2).objs.size, .ref (zn3 h l1 l2).objs.size] }
theorem zipN_new (l1 l2 : Addr) (xs ys : Array Value) :
    Meets (Builtin.«zip.__new__» ⟨[.type "zip", .ref l1, .ref l2], []⟩) (fun _ R s => s.heap.IsTuple l1 xs ∧ s.heap.IsList l2 ys ∧
      R (.ok (.ret (.ref (zn4 s.heap l1 l2).objs.size))) { s with heap := zn5 s.heap l1 l2 }) :=
  .of_wp fun prog w A R s h => by
    obtain ⟨hp, g, d, tk, os⟩ := s
    obtain ⟨hl1, hl2, h⟩ := h
    have hsub := sub_zip
    have hL1 : Heap.IsTuple (Shared.heap ⟨hp, g, d, tk, os⟩) l1 xs := hl1
    have hL2 : Heap.IsList (Shared.heap ⟨zn1 hp l1, g, d, tk, os⟩) l2 ys := Heap.IsList.push hl2 _
    wp_walk using wpAny_pyIter_tuple hL1, wpAny_pyIter_list hL2
    exact ⟨_, rfl, h⟩
theorem call_zipN {prog : Program} {w : World} {A : Around} {E : Value → Shared → Prop} {s : Shared} {l1 l2 : Addr} {xs ys : Array Value} {Q : Value → Shared → Prop} (hl1 : s.heap.IsTuple l1 xs) (hl2 : s.heap.IsList l2 ys)
    (h : ∀ h', IsZip h' (s.heap.objs.size + 4) (s.heap.objs.size + 2) (s.heap.objs.size + 3) .none → IsPair h' (s.heap.objs.size + 2) (.ref s.heap.objs.size) (.ref (s.heap.objs.size + 1)) →
      IsPair h' (s.heap.objs.size + 3) .none .none → h'.IsTupleIter s.heap.objs.size l1 0 → h'.IsListIter (s.heap.objs.size + 1) l2 0 →
      (∀ c o, s.heap.get? c = some o → h'.get? c = some o) → Q (.ref (s.heap.objs.size + 4)) { s with heap := h' }) :
    wpAny (model prog w) A (call (.type "zip") [.ref l1, .ref l2]) Q E s := by
  refine callType_new F.called_zip (by decide) (F.typeCall_zip_2 _ _) (F.newCall_zip_2 _ _) (fun obj => F.args_object_init_3 obj _ _) F.entry_zip_new (zipN_new l1 l2 xs ys) ⟨hl1, hl2, ?_⟩
  have z1 : (zn1 s.heap l1).objs.size = s.heap.objs.size + 1 := Heap.size_push ..
  have z2 : (zn2 s.heap l1 l2).objs.size = s.heap.objs.size + 2 := by rw [Heap.size_push, z1]
  have z3 : (zn3 s.heap l1 l2).objs.size = s.heap.objs.size + 3 := by rw [Heap.size_push, z2]
  have z4 : (zn4 s.heap l1 l2).objs.size = s.heap.objs.size + 4 := by rw [Heap.size_push, z3]
  have g5 : (zn5 s.heap l1 l2).get? (zn4 s.heap l1 l2).objs.size = some _ := Heap.get?_push_size _ rfl
  have g4 : (zn5 s.heap l1 l2).get? (zn3 s.heap l1 l2).objs.size = some _ := Heap.get?_push_of_some _ (Heap.get?_push_size _ rfl)
  have g3 : (zn5 s.heap l1 l2).get? (zn2 s.heap l1 l2).objs.size = some _ := Heap.get?_push_of_some _ (Heap.get?_push_of_some _ (Heap.get?_push_size _ rfl))
  have g2 : (zn5 s.heap l1 l2).get? (zn1 s.heap l1).objs.size = some _ := Heap.get?_push_of_some _ (Heap.get?_push_of_some _ (Heap.get?_push_of_some _ (Heap.get?_push_size _ rfl)))
  have g1 : (zn5 s.heap l1 l2).get? s.heap.objs.size = some _ := Heap.get?_push_of_some _ (Heap.get?_push_of_some _ (Heap.get?_push_of_some _ (Heap.get?_push_of_some _ (Heap.get?_push_size _ rfl))))
  show _ ∧ _
  rw [z2, z3, z4] at g5
  rw [z1, z2] at g3
  rw [z3] at g4
  rw [z1] at g2
  rw [z4]
  refine ⟨⟨_, g5, rfl⟩, h _ g5 g3 g4 ⟨_, g1, rfl, rfl⟩ ⟨_, g2, rfl, rfl⟩ ?_⟩
  intro c o x
  exact Heap.get?_push_of_some _ (Heap.get?_push_of_some _ (Heap.get?_push_of_some _ (Heap.get?_push_of_some _ (Heap.get?_push_of_some _ x))))
def ItzN (K : PySem.W.Frag) (a b : Addr) : It :=
  ⟨fun i H => ∃ (xs ys : List V) (x y : V), SqT K H a xs ∧ SqL K H b ys ∧ xs[i]? = some x ∧ ys[i]? = some y,
   fun i H v H' => ∃ T x y, v = .ref T ∧ H T = none ∧ H' = upd H T (.tup [x, y]) ∧ (∀ xs, SqT K H a xs → xs[i]? = some x) ∧ ∀ ys, SqL K H b ys → ys[i]? = some y,
   fun i H => ∃ xs ys : List V, SqT K H a xs ∧ SqL K H b ys ∧ min xs.length ys.length = i⟩
theorem turn_zipN {P : Program} {w : World} {K : PySem.W.Frag} {elts : List Expr} {kk : Nat} {tpos : Pos} {a b z TI TO i1 i2 : Addr} (D : ZipApart z TI TO i1 i2 a b) :
    Turn P w K (.Tuple elts kk tpos) (ItzN K a b) [z, TI, TO, i1, i2] z
      (fun i h => IsZip h z TI TO .none ∧ IsPair h TI (.ref i1) (.ref i2) ∧ (∃ x y, IsPair h TO x y) ∧ h.IsTupleIter i1 a i ∧ h.IsListIter i2 b i) where
  mem := by simp
  obj := by
    rintro i h ⟨hz, hTI, ⟨x, y, hTO⟩, ⟨o1, e1, _, d1⟩, ⟨o2, e2, _, d2⟩⟩ c hc
    simp only [List.mem_cons, List.not_mem_nil, or_false] at hc
    rcases hc with rfl | rfl | rfl | rfl | rfl
    · exact ⟨_, hz, fun v q => nomatch q⟩
    · exact ⟨_, hTI, fun v q => nomatch q⟩
    · exact ⟨_, hTO, fun v q => nomatch q⟩
    · exact ⟨o1, e1, fun v q => by rw [d1] at q; cases q⟩
    · exact ⟨o2, e2, fun v q => by rw [d2] at q; cases q⟩
  keep := by
    rintro i h h' ⟨hz, hTI, ⟨x, y, hTO⟩, h1, h2⟩ k
    exact ⟨k z (by simp) _ hz, k TI (by simp) _ hTI, ⟨x, y, k TO (by simp) _ hTO⟩, h1.at fun o q => k i1 (by simp) o q, h2.at fun o q => k i2 (by simp) o q⟩
  item := by
    intro X hP hw hK hc i pins s σ H E I hf st hg
    subst hP hw hK
    obtain ⟨hz, hTI, ⟨x0, y0, hTO⟩, h1, h2⟩ := st
    obtain ⟨xs, ys, x, y, hqx, hqy, hx, hy⟩ := hg
    obtain ⟨its, rv, p, _⟩ := I.tuple hqx
    obtain ⟨its2, rv2, p2, _⟩ := I.list hqy
    obtain ⟨u, hu, ru⟩ := rv.get hx
    obtain ⟨u2, hu2, ru2⟩ := rv2.get hy
    have hzl : z < s.heap.objs.size := Heap.lt_size hz
    have hl1 : i < its.toArray.size := by have := (List.getElem?_eq_some_iff.mp hu).1; simpa using this
    have hl2 : i < its2.toArray.size := by have := (List.getElem?_eq_some_iff.mp hu2).1; simpa using this
    refine wpAny_pyNext_zipD2_item (sepM D) (Draws.tuple (A := X.A.in1) (I.ok.hd hc) i1 a D.l1i1 its.toArray) (Draws.list (A := X.A.in1) (I.ok.hd hc) i2 b D.l2i2 its2.toArray) hz hTI hTO ⟨h1, p⟩ ⟨h2, p2.isList⟩ hl1 hl2 ?_
    intro v1 v2 h' tk hv1 hv2 z' TO' st1 st2 hT hsz hk
    have e1 : v1 = u := by
      have h3 : its.toArray[i]? = some u := by simpa using hu
      rw [show its.toArray[i]? = some v1 from hv1] at h3
      exact Option.some.inj h3
    have e2 : v2 = u2 := by
      have h3 : its2.toArray[i]? = some u2 := by simpa using hu2
      rw [show its2.toArray[i]? = some v2 from hv2] at h3
      exact Option.some.inj h3
    subst e1 e2
    refine ⟨_, rfl, wpAny_letOwnedTupleGo_zip (s := { s with heap := h', toks := tk }) z' fun h'' z'' sb => ?_⟩
    have hT2 : h''.get? s.heap.objs.size = some { cls := .type "tuple", data := .seq #[v1, v2] } := (sb.2 _ (Nat.ne_of_gt hzl)).trans hT
    have new : ObjOk X.prog X.w (upd H s.heap.objs.size (.tup [x, y])) h'' s.heap.objs.size (.tup [x, y]) :=
      ⟨by show 2 ≤ sizeLine; decide, [v1, v2], .cons ru (.cons ru2 .nil), ⟨_, hT2, rfl, _, rfl⟩⟩
    have kk : ∀ c o, c ∉ [z, TI, TO, i1, i2] → s.heap.get? c = some o → h''.get? c = some o := by
      intro c o hb q
      simp only [List.mem_cons, List.not_mem_nil, or_false, not_or] at hb
      exact (sb.2 c hb.1).trans (hk c o hb.1 hb.2.2.1 hb.2.2.2.1 hb.2.2.2.2 q)
    have I1 : Inv X pins σ (upd H s.heap.objs.size (.tup [x, y])) { s with heap := h'', toks := tk } :=
      I.turnedNew (t' := tk) (ch := [z, TI, TO, i1, i2]) kk hf (Nat.le_refl _) new
    refine ⟨.ref s.heap.objs.size, _, I1, rfl, ⟨_, x, y, rfl, I.hok.fresh (Nat.le_refl _), rfl, fun l hl => by rw [I.tuple_inj hl hqx]; exact hx, fun l hl => by rw [I.list_inj hl hqy]; exact hy⟩, ⟨z'', ?_, ⟨v1, v2, ?_⟩, ?_, ?_⟩, ?_⟩
    · exact (sb.2 _ D.TIz).trans (hk _ _ D.TIz D.TITO D.TIi1 D.TIi2 hTI)
    · exact (sb.2 _ D.TOz).trans TO'
    · exact st1.1.at fun o q => (sb.2 _ D.i1z).trans q
    · exact st2.1.at fun o q => (sb.2 _ D.i2z).trans q
    · intro c hcm
      have hlt : c < s.heap.objs.size := by
        simp only [List.mem_cons, List.not_mem_nil, or_false] at hcm
        rcases hcm with rfl | rfl | rfl | rfl | rfl
        · exact hzl
        · exact Heap.lt_size hTI
        · exact Heap.lt_size hTO
        · obtain ⟨_, e1, _⟩ := h1; exact Heap.lt_size e1
        · obtain ⟨_, e2, _⟩ := h2; exact Heap.lt_size e2
      rw [upd_ne (Nat.ne_of_lt hlt)]
      exact (hf c hcm).1
  done := by
    intro X hP hw hK hc i pins s σ H E I hf st hg
    subst hP hw hK
    obtain ⟨hz, hTI, ⟨x0, y0, hTO⟩, h1, h2⟩ := st
    obtain ⟨xs, ys, hqx, hqy, hend⟩ := hg
    obtain ⟨its, rv, p, _⟩ := I.tuple hqx
    obtain ⟨its2, rv2, p2, _⟩ := I.list hqy
    have l1 := rv.length
    have l2 := rv2.length
    refine wpAny_pyNext_zipD2_end (i := i) (sepM D) (Draws.tuple (A := X.A.in1) (I.ok.hd hc) i1 a D.l1i1 its.toArray) (Draws.list (A := X.A.in1) (I.ok.hd hc) i2 b D.l2i2 its2.toArray) hz hTI hTO ⟨h1, p⟩ ⟨h2, p2.isList⟩ (by simp; omega) (by simp; omega) (by simp; omega) ?_
    intro h' tk hk
    refine ⟨rfl, I.turnedL (t' := tk) (ch := [z, TI, TO, i1, i2]) ?_ hf⟩
    intro c o hb q
    simp only [List.mem_cons, List.not_mem_nil, or_false, not_or] at hb
    exact hk c o hb.1 hb.2.2.1 hb.2.2.2.1 hb.2.2.2.2 q
  self := fun A i s Q E st h => wpAny_pyIter_zip st.1 h
def iZipN (K : PySem.W.Frag) (ta : TA) : TI := fun σ H R => ta σ H fun vs H1 => ∃ a b xs ys, vs = [.ref a, .ref b] ∧ SqT K H1 a xs ∧ SqL K H1 b ys ∧ R (ItzN K a b) H1
theorem pi_zipN {X : Cx} {e e2 : Expr} {ta : TA} {p pos tpos : Pos} {elts : List Expr} {kk : Nat} (hg : Gl X "zip") (hm : X.mg "zip" = none) (ha : PA X [e, e2] ta)
    (hs : starEach [e, e2] X.env = (false, eval e X.env) :: starEach [e2] X.env := by rfl) (hpl : (backTo pos (starEach [e2] X.env)).any (·.1) = false := by rfl) :
    PI X (.Tuple elts kk tpos) (.Call (.Name "zip" p) [e, e2] [] pos) (iZipN X.K ta) := by
  constructor
  intro pins s σ H R I h
  refine Call_ (ld_blt I hg hm PyProof.Rows.boot_zip (PyProof.Rows.callWith_type1 (thn (ha.run pos pins s σ H _ I h) ?_) hs hpl))
  rintro us s1 ⟨vs, H1, I1, r1, a, b, xs, ys, rfl, hqx, hqy, q⟩
  obtain ⟨u, v, rfl, rfl, rfl⟩ := vals2 r1
  obtain ⟨its, rv, p1, _⟩ := I1.tuple hqx
  obtain ⟨its2, rv2, p2, _⟩ := I1.list hqy
  refine call_zipN (show s1.heap.IsTuple a its.toArray from p1) p2.isList fun h' hz hTI hTO h1 h2 hk => wpAny_pyIter_zip hz ?_
  have I2 : Inv X pins σ H1 { s1 with heap := h' } := I1.kept (t' := s1.toks) hk
  refine ⟨s1.heap.objs.size + 4, [s1.heap.objs.size + 4, s1.heap.objs.size + 2, s1.heap.objs.size + 3, s1.heap.objs.size, s1.heap.objs.size + 1], _, _, H1, rfl, I2,
    turn_zipN (PySem.W.ktu_apart s1.heap.objs.size a b (tupLt p1) p2.lt), ⟨hz, hTI, ⟨_, _, hTO⟩, h1, h2⟩, ?_, q⟩
  intro c hcm
  have hle : s1.heap.objs.size ≤ c := by
    simp only [List.mem_cons, List.not_mem_nil, or_false] at hcm
    rcases hcm with rfl | rfl | rfl | rfl | rfl <;> omega
  exact I1.fpOk hle (I1.hok.fresh hle)
theorem walk_zipN {K : PySem.W.Frag} {a b : Addr} {xs ys : List V} {n : Nat} (hn : n = min xs.length ys.length) :
    Walk (ItzN K a b) n (fun H => SqT K H a xs ∧ SqL K H b ys) (YPair (fun i => xs[i]?) (fun i => ys[i]?)) := by
  subst hn
  constructor
  · rintro i H hi ⟨q1, q2⟩
    have h1 : i < xs.length := by omega
    have h2 : i < ys.length := by omega
    exact ⟨xs, ys, xs[i], ys[i], q1, q2, by simp [h1], by simp [h2]⟩
  · rintro H ⟨q1, q2⟩
    exact ⟨xs, ys, q1, q2, rfl⟩
  · rintro i H v H' _ ⟨q1, q2⟩ ⟨T, x, z, h1, h2, h3, h4, h5⟩
    exact ⟨T, x, z, h1, h2, h3, h4 xs q1, h5 ys q2⟩
end Pv

namespace Pv
open PySem PySem.Spec PyProof.Rows L2
/-! a list that is not compared equal to [] -/
def rNeNil (K : PySem.W.Frag) : R2 := fun x y H Q => ∃ (a b : Addr) (xs : List V), x = .ref a ∧ y = .ref b ∧ SqL K H a xs ∧ SqL K H b [] ∧ Q (.bl (!xs.isEmpty)) H
theorem op_neNil {X : Cx} (hu : X.A.units < cLine) : OpR X (compareOp .NotEq) (rNeNil X.K) := by
  intro pins s σ H x y v u Q I rx ry h
  obtain ⟨a, b, xs, rfl, rfl, ha, hb, q⟩ := h
  cases rx
  cases ry
  obtain ⟨its, r1, p1, z1⟩ := I.list ha
  obtain ⟨its2, r2, p2, z2⟩ := I.list hb
  cases r2
  cases xs with
  | nil =>
    cases r1
    exact SeqAt.RcNeAt.lists (e := fun _ => true) p1.isList p2.isList rfl hu (fun j h1 _ => absurd h1 (Nat.not_lt_zero _)) X.prog X.w _ _ ⟨.bl false, H, I, rfl, q⟩
  | cons x xs =>
    have hl := r1.length
    exact SeqAt.RcNeAt.lists_lengths p1.isList p2.isList (by rw [List.size_toArray, ← hl]; rfl) hu X.prog X.w _ _ ⟨.bl true, H, I, rfl, q⟩
end Pv

namespace Pv
/-! cuts: who moves out of a set of posts, and into it -/
abbrev Rt := Option (Int × Option Int)
abbrev Ed := Rt × Int × Int
def inb (m : Int → Bool) : Option Int → Bool
  | none => false
  | some y => m y
def sg (m : Int → Bool) : Rt → Int
  | none => 0
  | some r => (if inb m r.2 = true then 1 else 0) - (if m r.1 = true then 1 else 0)
def wE (m : Int → Bool) (e : Ed) : Int := if sg m e.1 < 0 then e.2.2 else if 0 < sg m e.1 then -e.2.1 else 0
def spareS (N : List Int) (sp : Int → Int) (m : Int → Bool) : Int := ((N.filter m).map sp).sum
def FS (N : List Int) (sp : Int → Int) (m : Int → Bool) (es : List Ed) : Int := spareS N sp m + (es.map (wE m)).sum
def lP (p : Int) (e : Ed) : Int := match e.1 with | some r => if r.1 = p then e.2.1 else 0 | none => 0
def PS (sp : Int → Int) (p : Int) (es : List Ed) : Int := - sp p - (es.map (lP p)).sum
def lZ (e : Ed) : Int := match e.1 with | none => e.2.1 | some _ => 0
def ZS (es : List Ed) : Int := -(es.map lZ).sum
structure Feas (N : List Int) (sp : Int → Int) (C : List Int) (es : List Ed) : Prop where
  set : ∀ m, 0 ≤ FS N sp m es
  st : ∀ p ∈ C, 0 ≤ PS sp p es
  z : 0 ≤ ZS es
structure Wf (N : List Int) (C : List Int) (es : List Ed) : Prop where
  nd : N.Nodup
  sub : ∀ p ∈ C, p ∈ N
  a : ∀ e ∈ es, ∀ r, e.1 = some r → r.1 ∈ C
  b : ∀ e ∈ es, ∀ r, e.1 = some r → ∀ y, r.2 = some y → y ∉ C
  lu : ∀ e ∈ es, e.2.1 ≤ e.2.2
theorem sum_set {α : Type} (f : α → Int) : ∀ (l : List α) (j : Nat) (x y : α), l[j]? = some x → ((l.set j y).map f).sum = (l.map f).sum - f x + f y
  | [], j, x, y, h => by simp at h
  | z :: l, 0, x, y, h => by simp at h; subst h; simp; omega
  | z :: l, j + 1, x, y, h => by
    have := sum_set f l j x y (by simpa using h)
    simp only [List.set_cons_succ, List.map_cons, List.sum_cons, this]
    omega
theorem spareS_mod (N : List Int) (sp : Int → Int) (m n : Int → Bool) : spareS N sp m + spareS N sp n = spareS N sp (fun q => m q && n q) + spareS N sp (fun q => m q || n q) := by
  unfold spareS
  induction N with
  | nil => rfl
  | cons p N ih =>
    by_cases h1 : m p = true <;> by_cases h2 : n p = true <;> simp [h1, h2] <;> omega
theorem inb_and (m n : Int → Bool) (b : Option Int) : inb (fun q => m q && n q) b = (inb m b && inb n b) := by cases b <;> rfl
theorem inb_or (m n : Int → Bool) (b : Option Int) : inb (fun q => m q || n q) b = (inb m b || inb n b) := by cases b <;> rfl
def bon (m n : Int → Bool) (e : Ed) : Int := if sg m e.1 < 0 ∧ 0 < sg n e.1 then e.2.2 - e.2.1 else 0
def wB (i a : Bool) (l u : Int) : Int := if i = false ∧ a = true then u else if i = true ∧ a = false then -l else 0
theorem sg_neg (m : Int → Bool) (r : Int × Option Int) : sg m (some r) < 0 ↔ inb m r.2 = false ∧ m r.1 = true := by
  cases h1 : inb m r.2 <;> cases h2 : m r.1 <;> simp [sg, h1, h2]
theorem sg_pos (m : Int → Bool) (r : Int × Option Int) : 0 < sg m (some r) ↔ inb m r.2 = true ∧ m r.1 = false := by
  cases h1 : inb m r.2 <;> cases h2 : m r.1 <;> simp [sg, h1, h2]
theorem wE_some (m : Int → Bool) (r : Int × Option Int) (l u : Int) : wE m (some r, l, u) = wB (inb m r.2) (m r.1) l u := by
  cases h1 : inb m r.2 <;> cases h2 : m r.1 <;> simp [wE, sg, wB, h1, h2]
theorem w_sub (m n : Int → Bool) (e : Ed) (h : e.2.1 ≤ e.2.2) : wE (fun q => m q && n q) e + wE (fun q => m q || n q) e + bon m n e ≤ wE m e + wE n e := by
  obtain ⟨r, l, u⟩ := e
  cases r with
  | none => simp [wE, sg, bon]
  | some r =>
    simp only [wE_some, bon, inb_and, inb_or, sg_neg, sg_pos] at h ⊢
    cases h1 : m r.1 <;> cases h2 : n r.1 <;> cases h3 : inb m r.2 <;> cases h4 : inb n r.2 <;> simp [wB] <;> omega
theorem bon_nn (m n : Int → Bool) (e : Ed) (h : e.2.1 ≤ e.2.2) : 0 ≤ bon m n e := by unfold bon; split <;> omega
theorem sum_nn : ∀ {l : List Int}, (∀ x ∈ l, 0 ≤ x) → 0 ≤ l.sum
  | [], _ => by simp
  | x :: l, h => by
    have h1 := h x (by simp)
    have h2 := sum_nn (l := l) fun y hy => h y (by simp [hy])
    simp only [List.sum_cons]; omega
theorem sum_ge {l : List Int} (h : ∀ x ∈ l, 0 ≤ x) {y : Int} (hy : y ∈ l) : y ≤ l.sum := by
  induction l with
  | nil => cases hy
  | cons x l ih =>
    have h1 := h x (by simp)
    have h2 := sum_nn (l := l) fun y hy => h y (by simp [hy])
    simp only [List.sum_cons]
    rcases List.mem_cons.mp hy with rfl | hy
    · omega
    · have := ih (fun x hx => h x (by simp [hx])) hy; omega
theorem F_sub (N : List Int) (sp : Int → Int) (m n : Int → Bool) {es : List Ed} (h : ∀ e ∈ es, e.2.1 ≤ e.2.2) : FS N sp (fun q => m q && n q) es + FS N sp (fun q => m q || n q) es + (es.map (bon m n)).sum ≤ FS N sp m es + FS N sp n es := by
  have h1 := spareS_mod N sp m n
  have h2 : (es.map (wE (fun q => m q && n q))).sum + (es.map (wE (fun q => m q || n q))).sum + (es.map (bon m n)).sum ≤ (es.map (wE m)).sum + (es.map (wE n)).sum := by
    clear h1
    induction es with
    | nil => simp
    | cons e es ih =>
      have a := w_sub m n e (h e (by simp))
      have b := ih fun e he => h e (by simp [he])
      simp only [List.map_cons, List.sum_cons]
      omega
  unfold FS
  omega
/-- a cut that a group leaves, and one that it comes into, have room for it together -/
theorem cross {N : List Int} {sp : Int → Int} {C : List Int} {es : List Ed} (W : Wf N C es) (Fe : Feas N sp C es) {e : Ed} (he : e ∈ es) {m n : Int → Bool} (hm : sg m e.1 < 0) (hn : 0 < sg n e.1) : e.2.2 - e.2.1 ≤ FS N sp m es + FS N sp n es := by
  have h1 := F_sub N sp m n W.lu
  have h2 := Fe.set (fun q => m q && n q)
  have h3 := Fe.set (fun q => m q || n q)
  have h4 : bon m n e ≤ (es.map (bon m n)).sum := sum_ge (fun x hx => by
    obtain ⟨e', he', rfl⟩ := List.mem_map.mp hx
    exact bon_nn m n e' (W.lu e' he')) (List.mem_map_of_mem he)
  have h5 : bon m n e = e.2.2 - e.2.1 := by unfold bon; rw [if_pos ⟨hm, hn⟩]
  omega
theorem spareS_out {N : List Int} (nd : N.Nodup) (sp : Int → Int) {m : Int → Bool} {p : Int} (hp : p ∈ N) (hm : m p = true) : spareS N sp m = spareS N sp (fun q => m q && !decide (q = p)) + sp p := by
  unfold spareS
  induction N with
  | nil => cases hp
  | cons x N ih =>
    have nd' := List.nodup_cons.mp nd
    by_cases hx : x = p
    · subst hx
      have : N.filter (fun q => m q && !decide (q = x)) = N.filter m := by
        apply List.filter_congr
        intro q hq
        have : q ≠ x := fun z => nd'.1 (z ▸ hq)
        simp [this]
      rw [List.filter_cons_of_pos hm, List.filter_cons_of_neg (by simp), this]
      simp; omega
    · have hp' : p ∈ N := by rcases List.mem_cons.mp hp with h | h; exact absurd h.symm hx; exact h
      have := ih nd'.2 hp'
      by_cases h : m x = true
      · rw [List.filter_cons_of_pos h, List.filter_cons_of_pos (by simp [h, hx])]
        simp only [List.map_cons, List.sum_cons]; omega
      · rw [List.filter_cons_of_neg h, List.filter_cons_of_neg (by simp [h])]
        exact this
def bonP (m : Int → Bool) (p : Int) (e : Ed) : Int := match e.1 with | some r => if r.1 = p ∧ inb m r.2 = false then e.2.2 - e.2.1 else 0 | none => 0
/-- a cut that a group leaves, and the cut of its first post -/
theorem crossP {N : List Int} {sp : Int → Int} {C : List Int} {es : List Ed} (W : Wf N C es) (Fe : Feas N sp C es) {e : Ed} (he : e ∈ es) {m : Int → Bool} {r : Int × Option Int} (hr : e.1 = some r) (hm : sg m e.1 < 0) : e.2.2 - e.2.1 ≤ FS N sp m es + PS sp r.1 es := by
  have hrC := W.a e he r hr
  have hmp : m r.1 = true ∧ inb m r.2 = false := by
    rw [hr, sg_neg] at hm
    exact ⟨hm.2, hm.1⟩
  have h1 := spareS_out W.nd sp (W.sub _ hrC) hmp.1
  have key : ∀ e ∈ es, wE m e - lP r.1 e = wE (fun q => m q && !decide (q = r.1)) e + bonP m r.1 e := by
    intro e' he'
    obtain ⟨r', l, u⟩ := e'
    cases r' with
    | none => simp [wE, sg, lP, bonP]
    | some r' =>
      obtain ⟨a, b⟩ := r'
      have hb : inb (fun q => m q && !decide (q = r.1)) b = inb m b := by
        cases b with
        | none => rfl
        | some y =>
          have hy := W.b _ he' (a, some y) rfl y rfl
          have : y ≠ r.1 := fun z => hy (z ▸ hrC)
          simp [inb, this]
      simp only [wE_some, lP, bonP, hb]
      by_cases ha : a = r.1
      · subst ha
        cases h9 : inb m b <;> simp [wB, hmp.1]
      · simp [ha]
  have h2 : (es.map (wE m)).sum - (es.map (lP r.1)).sum = (es.map (wE (fun q => m q && !decide (q = r.1)))).sum + (es.map (bonP m r.1)).sum := by
    clear he Fe W
    induction es with
    | nil => simp
    | cons e' es ih =>
      have a := key e' (by simp)
      have b := ih fun e he => key e (by simp [he])
      simp only [List.map_cons, List.sum_cons]
      omega
  have h3 := Fe.set (fun q => m q && !decide (q = r.1))
  have h4 : bonP m r.1 e ≤ (es.map (bonP m r.1)).sum := sum_ge (fun x hx => by
    obtain ⟨e', he', rfl⟩ := List.mem_map.mp hx
    have := W.lu e' he'
    unfold bonP
    split
    · split <;> omega
    · omega) (List.mem_map_of_mem he)
  have h5 : bonP m r.1 e = e.2.2 - e.2.1 := by unfold bonP; rw [hr]; simp [hmp.2]
  unfold FS at h3 ⊢
  unfold PS
  omega
/-! one group is given its integer -/
theorem F_set {N : List Int} {sp : Int → Int} {es : List Ed} {j : Nat} {e e' : Ed} (he : es[j]? = some e) (m : Int → Bool) : FS N sp m (es.set j e') = FS N sp m es - wE m e + wE m e' := by
  unfold FS; rw [sum_set (wE m) es j e e' he]; omega
theorem P_set {sp : Int → Int} {es : List Ed} {j : Nat} {e e' : Ed} (he : es[j]? = some e) (p : Int) : PS sp p (es.set j e') = PS sp p es + lP p e - lP p e' := by
  unfold PS; rw [sum_set (lP p) es j e e' he]; omega
theorem Z_set {es : List Ed} {j : Nat} {e e' : Ed} (he : es[j]? = some e) : ZS (es.set j e') = ZS es + lZ e - lZ e' := by
  unfold ZS; rw [sum_set lZ es j e e' he]; omega
/-- which integers are open to a group -/
structure Opn (N : List Int) (sp : Int → Int) (es : List Ed) (e : Ed) (x : Int) : Prop where
  lo : ∀ m, sg m e.1 < 0 → e.2.2 - FS N sp m es ≤ x
  hi : ∀ m, 0 < sg m e.1 → x ≤ e.2.1 + FS N sp m es
  p : ∀ r, e.1 = some r → x ≤ e.2.1 + PS sp r.1 es
  z : e.1 = none → x ≤ e.2.1 + ZS es
theorem opn_iff {N : List Int} {sp : Int → Int} {C : List Int} {es : List Ed} (W : Wf N C es) (Fe : Feas N sp C es) {j : Nat} {e : Ed} (he : es[j]? = some e) (x : Int) : Feas N sp C (es.set j (e.1, x, x)) ↔ Opn N sp es e x := by
  constructor
  · intro h
    refine ⟨fun m hm => ?_, fun m hm => ?_, fun r hr => ?_, fun hn => ?_⟩
    · have := h.set m
      rw [F_set he] at this
      unfold wE at this
      simp only [hm, if_true] at this
      omega
    · have := h.set m
      rw [F_set he] at this
      unfold wE at this
      have hn : ¬ sg m e.1 < 0 := by omega
      simp only [hm, hn, if_true, if_false] at this
      omega
    · have := h.st r.1 (W.a e (List.mem_of_getElem? he) r hr)
      rw [P_set he] at this
      unfold lP at this
      simp only [hr, if_true] at this
      omega
    · have := h.z
      rw [Z_set he] at this
      unfold lZ at this
      simp only [hn] at this
      omega
  · intro h
    refine ⟨fun m => ?_, fun p hp => ?_, ?_⟩
    · rw [F_set he]
      have := Fe.set m
      by_cases h1 : sg m e.1 < 0
      · have := h.lo m h1
        unfold wE
        simp only [h1, if_true]; omega
      · by_cases h2 : 0 < sg m e.1
        · have := h.hi m h2
          unfold wE
          simp only [h1, h2, if_true, if_false]; omega
        · unfold wE
          simp only [h1, h2, if_false]; omega
    · rw [P_set he]
      have := Fe.st p hp
      unfold lP
      cases hr : e.1 with
      | none => simp only; omega
      | some r =>
        simp only
        by_cases h1 : r.1 = p
        · have := h.p r hr
          simp only [h1, if_true] at this ⊢
          omega
        · simp only [h1, if_false]; omega
    · rw [Z_set he]
      have := Fe.z
      unfold lZ
      cases hr : e.1 with
      | none => have := h.z hr; simp only; omega
      | some r => simp only; omega
/-- the least that is asked from below is open -/
theorem opn_least {N : List Int} {sp : Int → Int} {C : List Int} {es : List Ed} (W : Wf N C es) (Fe : Feas N sp C es) {e : Ed} (he : e ∈ es) {x : Int} (lo : ∀ m, sg m e.1 < 0 → e.2.2 - FS N sp m es ≤ x) (at_ : x = e.2.1 ∨ ∃ m, sg m e.1 < 0 ∧ x = e.2.2 - FS N sp m es) : Opn N sp es e x := by
  refine ⟨lo, fun m hm => ?_, fun r hr => ?_, fun hn => ?_⟩
  · rcases at_ with rfl | ⟨m', hm', rfl⟩
    · have := Fe.set m; omega
    · have := cross W Fe he hm' hm; omega
  · rcases at_ with rfl | ⟨m', hm', rfl⟩
    · have := Fe.st _ (W.a e he r hr); omega
    · have := crossP W Fe he hr hm'; omega
  · rcases at_ with rfl | ⟨m', hm', rfl⟩
    · have := Fe.z; omega
    · rw [hn] at hm'; simp [sg] at hm'
/-- the greatest that is let through from above is open -/
theorem opn_most {N : List Int} {sp : Int → Int} {C : List Int} {es : List Ed} (W : Wf N C es) (Fe : Feas N sp C es) {e : Ed} (he : e ∈ es) {x : Int} (hi : ∀ m, 0 < sg m e.1 → x ≤ e.2.1 + FS N sp m es) (p : ∀ r, e.1 = some r → x ≤ e.2.1 + PS sp r.1 es) (z : e.1 = none → x ≤ e.2.1 + ZS es)
    (at_ : x = e.2.2 ∨ (∃ m, 0 < sg m e.1 ∧ x = e.2.1 + FS N sp m es) ∨ (∃ r, e.1 = some r ∧ x = e.2.1 + PS sp r.1 es) ∨ (e.1 = none ∧ x = e.2.1 + ZS es)) : Opn N sp es e x := by
  refine ⟨fun m hm => ?_, hi, p, z⟩
  rcases at_ with rfl | ⟨m', hm', rfl⟩ | ⟨r, hr, rfl⟩ | ⟨hn, rfl⟩
  · have := Fe.set m; omega
  · have := cross W Fe he hm hm'; omega
  · have := crossP W Fe he hr hm; omega
  · rw [hn] at hm; simp [sg] at hm
theorem Wf.set {N : List Int} {C : List Int} {es : List Ed} (W : Wf N C es) {j : Nat} {e : Ed} (he : es[j]? = some e) (x : Int) : Wf N C (es.set j (e.1, x, x)) := by
  have hm := List.mem_of_getElem? he
  refine ⟨W.nd, W.sub, fun e' h' r hr => ?_, fun e' h' r hr => ?_, fun e' h' => ?_⟩
  · rcases List.mem_or_eq_of_mem_set h' with h | h
    · exact W.a e' h r hr
    · subst h; exact W.a e hm r hr
  · rcases List.mem_or_eq_of_mem_set h' with h | h
    · exact W.b e' h r hr
    · subst h; exact W.b e hm r hr
  · rcases List.mem_or_eq_of_mem_set h' with h | h
    · exact W.lu e' h
    · subst h; exact Int.le_refl _
/-- there is one -/
theorem opn_ex {N : List Int} {sp : Int → Int} {C : List Int} {es : List Ed} (W : Wf N C es) (Fe : Feas N sp C es) {e : Ed} (he : e ∈ es) : ∃ x, e.2.1 ≤ x ∧ x ≤ e.2.2 ∧ Opn N sp es e x := by
  have hlu := W.lu e he
  -- the least natural number k with: l + k is at least all that is asked
  have hex : ∃ k : Nat, ∀ m, sg m e.1 < 0 → e.2.2 - FS N sp m es ≤ e.2.1 + k := ⟨(e.2.2 - e.2.1).toNat, fun m hm => by have := Fe.set m; omega⟩
  have hmin : ∀ n : Nat, (∀ m, sg m e.1 < 0 → e.2.2 - FS N sp m es ≤ e.2.1 + n) → ∃ k : Nat, k ≤ n ∧ (∀ m, sg m e.1 < 0 → e.2.2 - FS N sp m es ≤ e.2.1 + k) ∧ (k = 0 ∨ ∃ m, sg m e.1 < 0 ∧ e.2.1 + k = e.2.2 - FS N sp m es) := by
    intro n
    induction n with
    | zero => intro h; exact ⟨0, Nat.le_refl _, h, .inl rfl⟩
    | succ n ih =>
      intro h
      by_cases h' : ∀ m, sg m e.1 < 0 → e.2.2 - FS N sp m es ≤ e.2.1 + n
      · obtain ⟨k, h1, h2⟩ := ih h'
        exact ⟨k, by omega, h2⟩
      · refine ⟨n + 1, Nat.le_refl _, h, .inr ?_⟩
        have ⟨m, hm⟩ := Classical.not_forall.mp h'
        have ⟨h1, h2⟩ := Classical.not_imp.mp hm
        refine ⟨m, h1, ?_⟩
        have := h m h1
        omega
  obtain ⟨k, hk, hlo, hat⟩ := hmin (e.2.2 - e.2.1).toNat fun m hm => by have := Fe.set m; omega
  refine ⟨e.2.1 + k, by omega, by omega, opn_least W Fe he hlo ?_⟩
  rcases hat with rfl | ⟨m, h1, h2⟩
  · left; simp
  · right; exact ⟨m, h1, h2⟩
/-- all groups can be given integers -/
theorem complete_on {N : List Int} {sp : Int → Int} {C : List Int} : ∀ (rest done : List Ed), Wf N C (done ++ rest) → Feas N sp C (done ++ rest) → ∃ xs : List Int, xs.length = rest.length ∧ (∀ (j : Nat) (e : Ed) (x : Int), rest[j]? = some e → xs[j]? = some x → e.2.1 ≤ x ∧ x ≤ e.2.2) ∧ Feas N sp C (done ++ List.zipWith (fun (e : Ed) x => ((e.1, x, x) : Ed)) rest xs)
  | [], done, _, Fe => ⟨[], rfl, fun j e x h => by simp at h, by simpa using Fe⟩
  | e :: rest, done, W, Fe => by
    have hat : (done ++ e :: rest)[done.length]? = some e := by simp
    obtain ⟨x, h1, h2, h3⟩ := opn_ex W Fe (List.mem_of_getElem? hat)
    have hset : (done ++ e :: rest).set done.length (e.1, x, x) = (done ++ [((e.1, x, x) : Ed)]) ++ rest := by simp
    have W' := W.set hat x
    have F' := (opn_iff W Fe hat x).mpr h3
    rw [hset] at W' F'
    obtain ⟨xs, lx, bx, Fx⟩ := complete_on rest (done ++ [((e.1, x, x) : Ed)]) W' F'
    refine ⟨x :: xs, by simp [lx], fun j f y hf hy => ?_, by simpa using Fx⟩
    cases j with
    | zero => simp at hf hy; subst hf; subst hy; exact ⟨h1, h2⟩
    | succ j => exact bx j f y (by simpa using hf) (by simpa using hy)
theorem complete {N : List Int} {sp : Int → Int} {C : List Int} {es : List Ed} (W : Wf N C es) (Fe : Feas N sp C es) : ∃ xs : List Int, xs.length = es.length ∧ (∀ (j : Nat) (e : Ed) (x : Int), es[j]? = some e → xs[j]? = some x → e.2.1 ≤ x ∧ x ≤ e.2.2) ∧ Feas N sp C (List.zipWith (fun (e : Ed) x => ((e.1, x, x) : Ed)) es xs) := by
  obtain ⟨xs, h1, h2, h3⟩ := complete_on es [] (by simpa using W) (by simpa using Fe)
  exact ⟨xs, h1, h2, by simpa using h3⟩
/-- what is fixed is open before -/
theorem feas_loose {N : List Int} {sp : Int → Int} {C : List Int} : ∀ {es fs : List Ed}, Feas N sp C fs → es.length = fs.length → (∀ (j : Nat) (e f : Ed), es[j]? = some e → fs[j]? = some f → e.1 = f.1 ∧ e.2.1 ≤ f.2.1 ∧ f.2.2 ≤ e.2.2) → Feas N sp C es := by
  intro es fs Fe hl h
  have key : ∀ (g : Ed → Int), (∀ e f : Ed, e.1 = f.1 → e.2.1 ≤ f.2.1 → f.2.2 ≤ e.2.2 → g f ≤ g e) → ∀ (es fs : List Ed), es.length = fs.length → (∀ (j : Nat) (e f : Ed), es[j]? = some e → fs[j]? = some f → e.1 = f.1 ∧ e.2.1 ≤ f.2.1 ∧ f.2.2 ≤ e.2.2) → (fs.map g).sum ≤ (es.map g).sum := by
    intro g hg es
    induction es with
    | nil => intro fs hl _; cases fs with | nil => simp | cons _ _ => simp at hl
    | cons e es ih =>
      intro fs hl h
      cases fs with
      | nil => simp at hl
      | cons f fs =>
        have h0 := h 0 e f rfl rfl
        have h1 := hg e f h0.1 h0.2.1 h0.2.2
        have h2 := ih fs (by simpa using hl) fun j e f he hf => h (j + 1) e f (by simpa using he) (by simpa using hf)
        simp only [List.map_cons, List.sum_cons]; omega
  refine ⟨fun m => ?_, fun p hp => ?_, ?_⟩
  · have h1 := Fe.set m
    have h2 := key (wE m) (fun e f a b c => by
      unfold wE
      rw [a]
      split
      · omega
      · split <;> omega) es fs hl h
    unfold FS at h1 ⊢; omega
  · have h1 := Fe.st p hp
    have h2 := key (fun e => - lP p e) (fun e f a b c => by
      unfold lP
      rw [a]
      split
      · split <;> omega
      · omega) es fs hl h
    have h3 : ∀ l : List Ed, (l.map (fun e => - lP p e)).sum = - (l.map (lP p)).sum := by
      intro l; induction l with
      | nil => simp
      | cons x l ih => simp only [List.map_cons, List.sum_cons, ih]; omega
    rw [h3, h3] at h2
    unfold PS at h1 ⊢; omega
  · have h1 := Fe.z
    have h2 := key (fun e => - lZ e) (fun e f a b c => by
      unfold lZ
      rw [a]
      split
      · omega
      · omega) es fs hl h
    have h3 : ∀ l : List Ed, (l.map (fun e => - lZ e)).sum = - (l.map lZ).sum := by
      intro l; induction l with
      | nil => simp
      | cons x l ih => simp only [List.map_cons, List.sum_cons, ih]; omega
    rw [h3, h3] at h2
    unfold ZS at h1 ⊢; omega
end Pv

namespace Pv
/-! the cuts of an instance -/
def spOf (cs : List Int) (gs : List Gp) (p : Int) : Int := cs.getD p.toNat 0 - (rDem cs gs).getD p.toNat 0
def nzP (cs : List Int) (gs : List Gp) : List Int := ((List.range cs.length).map (fun (k : Nat) => (k : Int))).filter fun p => !decide (spOf cs gs p = 0)
def esx (cs : List Int) (gs : List Gp) (xs : List Int) : List Ed := List.zipWith (fun g x => ((routeOf cs gs g, x, x) : Ed)) gs xs
def es0 (cs : List Int) (gs : List Gp) : List Ed := gs.map fun g => ((routeOf cs gs g, 0, g.2) : Ed)
theorem nz_nodup (cs : List Int) (gs : List Gp) : (nzP cs gs).Nodup := by
  refine List.Nodup.sublist (List.filter_sublist ..) ?_
  rw [List.nodup_iff_pairwise_ne, List.pairwise_map]
  exact List.Pairwise.imp (fun h => by omega) (List.nodup_iff_pairwise_ne.mp List.nodup_range)
theorem nz_mem {cs : List Int} {gs : List Gp} {p : Int} : p ∈ nzP cs gs ↔ (0 ≤ p ∧ p < (cs.length : Int)) ∧ spOf cs gs p ≠ 0 := by
  unfold nzP
  rw [List.mem_filter, List.mem_map]
  constructor
  · rintro ⟨⟨k, hk, rfl⟩, h⟩
    have := List.mem_range.mp hk
    exact ⟨⟨by omega, by omega⟩, by simpa using h⟩
  · rintro ⟨⟨h1, h2⟩, h⟩
    exact ⟨⟨p.toNat, List.mem_range.mpr (by omega), by omega⟩, by simpa using h⟩
theorem sel_mem {f : Int → Bool} {ls : List Int} {n : Nat} {p : Int} : p ∈ sel f ls n ↔ (0 ≤ p ∧ p < (n : Int)) ∧ f (ls.getD p.toNat 0) = true := by
  unfold sel
  rw [List.mem_map]
  constructor
  · rintro ⟨k, hk, rfl⟩
    have := List.mem_filter.mp hk
    have h2 := List.mem_range.mp this.1
    exact ⟨⟨by omega, by omega⟩, by simpa using this.2⟩
  · rintro ⟨⟨h1, h2⟩, h⟩
    exact ⟨p.toNat, List.mem_filter.mpr ⟨List.mem_range.mpr (by omega), h⟩, by omega⟩
theorem cro_mem {cs : List Int} {gs : List Gp} {p : Int} : p ∈ rCro cs gs ↔ (0 ≤ p ∧ p < (cs.length : Int)) ∧ spOf cs gs p < 0 := by
  unfold rCro
  rw [sel_mem]
  constructor
  · rintro ⟨⟨h1, h2⟩, h⟩
    refine ⟨⟨h1, h2⟩, ?_⟩
    have a : p.toNat < cs.length := by omega
    unfold rExc at h
    rw [exc_at a (by rw [rDem_len]; exact a)] at h
    unfold spOf
    rw [List.getD_eq_getElem?_getD, List.getD_eq_getElem?_getD, List.getElem?_eq_getElem a, List.getElem?_eq_getElem (show p.toNat < (rDem cs gs).length by rw [rDem_len]; exact a)]
    simp only [Option.getD_some]
    have h := of_decide_eq_true h
    unfold mx at h
    split at h <;> omega
  · rintro ⟨⟨h1, h2⟩, h⟩
    refine ⟨⟨h1, h2⟩, ?_⟩
    have a : p.toNat < cs.length := by omega
    unfold rExc
    rw [exc_at a (by rw [rDem_len]; exact a)]
    unfold spOf at h
    rw [List.getD_eq_getElem?_getD, List.getD_eq_getElem?_getD, List.getElem?_eq_getElem a, List.getElem?_eq_getElem (show p.toNat < (rDem cs gs).length by rw [rDem_len]; exact a)] at h
    simp only [Option.getD_some] at h
    apply decide_eq_true
    unfold mx
    split <;> omega
theorem cla_mem {cs : List Int} {gs : List Gp} {p : Int} (h : 0 ≤ p ∧ p < (cs.length : Int)) : (rCla cs gs).contains p = decide (spOf cs gs p ≤ 0) := by
  have a : p.toNat < cs.length := by omega
  have e : p = ((p.toNat : Nat) : Int) := by omega
  rw [e, cla_has a]
  unfold spOf
  rw [Int.toNat_natCast, List.getD_eq_getElem?_getD, List.getD_eq_getElem?_getD, List.getElem?_eq_getElem a, List.getElem?_eq_getElem (show p.toNat < (rDem cs gs).length by rw [rDem_len]; exact a)]
  simp only [Option.getD_some, decide_eq_decide]
  omega
theorem res_free {ps cl : List Int} {y : Int} (h : ps[resOf ps cl]? = some y) : cl.contains y = false := by
  unfold resOf at h
  cases e : (List.range' 1 (ps.length - 1)).find? (isFree ps cl) with
  | none => rw [e] at h; simp at h
  | some k =>
    rw [e] at h
    simp only [Option.getD_some] at h
    have := List.find?_some e
    unfold isFree at this
    rw [List.getD_eq_getElem?_getD, h] at this
    simpa using this
theorem route_wf {cs : List Int} {gs : List Gp} (ok : InsOk cs gs) {g : Gp} (hg : g ∈ gs) {r : Int × Option Int} (h : routeOf cs gs g = some r) : r.1 ∈ rCro cs gs ∧ ∀ y, r.2 = some y → 0 < spOf cs gs y ∧ 0 ≤ y ∧ y < (cs.length : Int) := by
  have hin := route_in ok hg h
  unfold routeOf at h
  cases e : g.1 with
  | nil => rw [e] at h; cases h
  | cons p ps =>
    rw [e] at h
    simp only at h
    split at h
    case isFalse => cases h
    case isTrue hc =>
      cases h
      refine ⟨by simpa using hc, fun y hy => ?_⟩
      have hy2 := hin.2 y hy
      simp only at hy
      have := res_free hy
      rw [cla_mem hy2] at this
      have := of_decide_eq_false this
      exact ⟨by omega, hy2.1, hy2.2⟩
theorem wf_of {cs : List Int} {gs : List Gp} (ok : InsOk cs gs) {es : List Ed} (h : ∀ e ∈ es, e.2.1 ≤ e.2.2 ∧ ∃ g ∈ gs, e.1 = routeOf cs gs g) : Wf (nzP cs gs) (rCro cs gs) es := by
  refine ⟨nz_nodup cs gs, fun p hp => ?_, fun e he r hr => ?_, fun e he r hr y hy hc => ?_, fun e he => (h e he).1⟩
  · have := cro_mem.mp hp
    exact nz_mem.mpr ⟨this.1, by omega⟩
  · obtain ⟨_, g, hg, e1⟩ := h e he
    exact (route_wf ok hg (e1 ▸ hr)).1
  · obtain ⟨_, g, hg, e1⟩ := h e he
    have h1 := (route_wf ok hg (e1 ▸ hr)).2 y hy
    have h2 := cro_mem.mp hc
    omega
theorem wf_es0 {cs : List Int} {gs : List Gp} (ok : InsOk cs gs) : Wf (nzP cs gs) (rCro cs gs) (es0 cs gs) := by
  refine wf_of ok fun e he => ?_
  obtain ⟨g, hg, rfl⟩ := List.mem_map.mp he
  exact ⟨by have := (ok.gp g hg).2.2.1; simp only; omega, g, hg, rfl⟩
/-! what is moved, by posts -/
def movP (p : Int) (z : Rt × Int) : Int := match z.1 with | some r => if r.1 = p then z.2 else 0 | none => 0
def takP (p : Int) (z : Rt × Int) : Int := match z.1 with | some r => if r.2 = some p then z.2 else 0 | none => 0
theorem addAt_get {ls : List Int} {p q : Nat} {x : Int} (h : p < ls.length) : (addAt ls (p : Int) x).getD q 0 = ls.getD q 0 + if p = q then x else 0 := by
  unfold addAt
  rw [Int.toNat_natCast, List.getD_eq_getElem?_getD, List.getD_eq_getElem?_getD, List.getElem?_set]
  by_cases e : p = q
  · subst e; simp [h]
  · simp [e]
theorem mv_get {n : Nat} {zs : List (Rt × Int)} (h : ∀ z ∈ zs, ∀ r, z.1 = some r → (0 ≤ r.1 ∧ r.1 < (n : Int)) ∧ ∀ y, r.2 = some y → 0 ≤ y ∧ y < (n : Int)) (q : Nat) : (mvOf n zs).1.getD q 0 = (zs.map (movP q)).sum ∧ (mvOf n zs).2.getD q 0 = (zs.map (takP q)).sum := by
  have key : ∀ (zs : List (Rt × Int)) (st : List Int × List Int), st.1.length = n → st.2.length = n → (∀ z ∈ zs, ∀ r, z.1 = some r → (0 ≤ r.1 ∧ r.1 < (n : Int)) ∧ ∀ y, r.2 = some y → 0 ≤ y ∧ y < (n : Int)) →
      (zs.foldl mvStep st).1.getD q 0 = st.1.getD q 0 + (zs.map (movP q)).sum ∧ (zs.foldl mvStep st).2.getD q 0 = st.2.getD q 0 + (zs.map (takP q)).sum := by
    intro zs
    induction zs with
    | nil => intro st _ _ _; simp
    | cons z zs ih =>
      intro st h1 h2 h
      obtain ⟨r, x⟩ := z
      have hz := h (r, x) (by simp)
      have hs : (mvStep st (r, x)).1.length = n ∧ (mvStep st (r, x)).2.length = n := by
        unfold mvStep
        cases r with
        | none => exact ⟨h1, h2⟩
        | some r =>
          refine ⟨by simp only [addAt_len]; exact h1, ?_⟩
          simp only
          cases r.2 with
          | none => exact h2
          | some y => simp only [addAt_len]; exact h2
      have := ih (mvStep st (r, x)) hs.1 hs.2 fun z hz => h z (by simp [hz])
      rw [List.foldl_cons, this.1, this.2]
      simp only [List.map_cons, List.sum_cons]
      cases r with
      | none => simp [mvStep, movP, takP]
      | some r =>
        obtain ⟨a, b⟩ := r
        obtain ⟨ha, hb⟩ := hz (a, b) rfl
        simp only at ha hb
        obtain ⟨an, rfl⟩ : ∃ an : Nat, a = an := ⟨a.toNat, by omega⟩
        constructor
        · simp only [mvStep, movP]
          rw [addAt_get (by omega)]
          by_cases e : an = q
          · simp [e]; omega
          · have : ¬ ((an : Int) = (q : Int)) := by omega
            simp [e, this]
        · simp only [mvStep, takP]
          cases b with
          | none => simp
          | some y =>
            have hy := hb y rfl
            obtain ⟨yn, rfl⟩ : ∃ yn : Nat, y = yn := ⟨y.toNat, by omega⟩
            simp only
            rw [addAt_get (by omega)]
            by_cases e : yn = q
            · simp [e]; omega
            · have : ¬ ((yn : Int) = (q : Int)) := by omega
              simp [e, this]
  have := key zs (zeros n, zeros n) (by simp [zeros]) (by simp [zeros]) h
  have z0 : (zeros n).getD q 0 = 0 := by
    unfold zeros
    rw [List.getD_eq_getElem?_getD, List.getElem?_replicate]
    split <;> rfl
  unfold mvOf
  rw [this.1, this.2]
  simp only [z0]
  omega
/-- double counting -/
theorem mov_sum {N : List Int} (nd : N.Nodup) (m : Int → Bool) : ∀ (zs : List (Rt × Int)), (∀ z ∈ zs, ∀ r, z.1 = some r → r.1 ∈ N) → ((N.filter m).map (fun p => (zs.map (movP p)).sum)).sum = (zs.map (fun z => match z.1 with | some r => if m r.1 = true then z.2 else 0 | none => 0)).sum := by
  intro zs
  induction zs with
  | nil =>
    intro _
    simp only [List.map_nil, List.sum_nil]
    induction (N.filter m) with
    | nil => rfl
    | cons _ _ ih => simp only [List.map_cons, List.sum_cons, ih]; omega
  | cons z zs ih =>
    intro h
    have e1 := ih fun z hz => h z (by simp [hz])
    have split : ∀ l : List Int, (l.map (fun p => ((z :: zs).map (movP p)).sum)).sum = (l.map (fun p => movP p z)).sum + (l.map (fun p => (zs.map (movP p)).sum)).sum := by
      intro l
      induction l with
      | nil => rfl
      | cons x l ih => simp only [List.map_cons, List.sum_cons] at ih ⊢; omega
    rw [split, e1]
    simp only [List.map_cons, List.sum_cons]
    congr 1
    obtain ⟨r, x⟩ := z
    cases r with
    | none =>
      simp only [movP]
      induction (N.filter m) with
      | nil => rfl
      | cons _ _ ih => simp only [List.map_cons, List.sum_cons, ih]; omega
    | some r =>
      have hr := h (some r, x) (by simp) r rfl
      simp only [movP]
      have one : ∀ l : List Int, l.Nodup → (l.map (fun p => if r.1 = p then x else 0)).sum = if r.1 ∈ l then x else 0 := by
        intro l
        induction l with
        | nil => intro _; rfl
        | cons y l ih =>
          intro nd
          have nd' := List.nodup_cons.mp nd
          simp only [List.map_cons, List.sum_cons, ih nd'.2, List.mem_cons]
          by_cases e : r.1 = y
          · have : r.1 ∉ l := e ▸ nd'.1
            simp [e]; rw [← e]; simp [this]
          · simp [e]
      rw [one _ (List.Nodup.sublist (List.filter_sublist ..) nd)]
      by_cases hm : m r.1 = true
      · simp [hm, hr]
      · simp [hm]
theorem tak_sum {N : List Int} (nd : N.Nodup) (m : Int → Bool) : ∀ (zs : List (Rt × Int)), (∀ z ∈ zs, ∀ r, z.1 = some r → ∀ y, r.2 = some y → y ∈ N) → ((N.filter m).map (fun p => (zs.map (takP p)).sum)).sum = (zs.map (fun z => match z.1 with | some r => if inb m r.2 = true then z.2 else 0 | none => 0)).sum := by
  intro zs
  induction zs with
  | nil =>
    intro _
    simp only [List.map_nil, List.sum_nil]
    induction (N.filter m) with
    | nil => rfl
    | cons _ _ ih => simp only [List.map_cons, List.sum_cons, ih]; omega
  | cons z zs ih =>
    intro h
    have e1 := ih fun z hz => h z (by simp [hz])
    have split : ∀ l : List Int, (l.map (fun p => ((z :: zs).map (takP p)).sum)).sum = (l.map (fun p => takP p z)).sum + (l.map (fun p => (zs.map (takP p)).sum)).sum := by
      intro l
      induction l with
      | nil => rfl
      | cons x l ih => simp only [List.map_cons, List.sum_cons] at ih ⊢; omega
    rw [split, e1]
    simp only [List.map_cons, List.sum_cons]
    congr 1
    obtain ⟨r, x⟩ := z
    have zer : ∀ l : List Int, (l.map (fun _ => (0 : Int))).sum = 0 := by
      intro l
      induction l with
      | nil => rfl
      | cons _ _ ih => simp only [List.map_cons, List.sum_cons, ih]; omega
    cases r with
    | none => simp only [takP]; exact zer _
    | some r =>
      have hr := h (some r, x) (by simp) r rfl
      simp only [takP]
      cases hb : r.2 with
      | none => simp only [inb]; simp; exact zer _
      | some y =>
        have hy := hr y hb
        have one : ∀ l : List Int, l.Nodup → (l.map (fun p => if some y = some p then x else 0)).sum = if y ∈ l then x else 0 := by
          intro l
          induction l with
          | nil => intro _; rfl
          | cons q l ih =>
            intro nd
            have nd' := List.nodup_cons.mp nd
            simp only [List.map_cons, List.sum_cons, ih nd'.2, List.mem_cons]
            by_cases e : y = q
            · have : y ∉ l := e ▸ nd'.1
              simp [e]; rw [← e]; simp [this]
            · simp [e]
        rw [one _ (List.Nodup.sublist (List.filter_sublist ..) nd)]
        simp only [inb]
        by_cases hm : m y = true
        · simp [hm, hy]
        · simp [hm]
end Pv

namespace Pv
theorem zs_mem {cs : List Int} {gs : List Gp} {xs : List Int} {z : Rt × Int} (h : z ∈ zsOf cs gs xs) : ∃ g ∈ gs, z.1 = routeOf cs gs g := by
  unfold zsOf at h
  have := (List.of_mem_zip h).1
  obtain ⟨g, hg, e⟩ := List.mem_map.mp this
  exact ⟨g, hg, e.symm⟩
theorem esx_zs (cs : List Int) (gs : List Gp) (xs : List Int) : esx cs gs xs = (zsOf cs gs xs).map fun z => ((z.1, z.2, z.2) : Ed) := by
  unfold esx zsOf
  have : ∀ (hs : List Gp) (xs : List Int), List.zipWith (fun g x => ((routeOf cs gs g, x, x) : Ed)) hs xs = ((hs.map (routeOf cs gs)).zip xs).map fun z => ((z.1, z.2, z.2) : Ed) := by
    intro hs
    induction hs with
    | nil => intro xs; simp
    | cons h hs ih => intro xs; cases xs with | nil => simp | cons x xs => simp [ih]
  exact this gs xs
theorem sum_sub {α : Type} (f g : α → Int) : ∀ l : List α, (l.map (fun x => f x - g x)).sum = (l.map f).sum - (l.map g).sum
  | [] => by simp
  | x :: l => by simp only [List.map_cons, List.sum_cons, sum_sub f g l]; omega
theorem sum_add {α : Type} (f g : α → Int) : ∀ l : List α, (l.map (fun x => f x + g x)).sum = (l.map f).sum + (l.map g).sum
  | [] => by simp
  | x :: l => by simp only [List.map_cons, List.sum_cons, sum_add f g l]; omega
theorem sum_zero {α : Type} {f : α → Int} : ∀ {l : List α}, (∀ x ∈ l, f x = 0) → (l.map f).sum = 0
  | [], _ => by simp
  | x :: l, h => by simp only [List.map_cons, List.sum_cons, h x (by simp), sum_zero (l := l) fun y hy => h y (by simp [hy])]; omega
section
variable {cs : List Int} {gs : List Gp} {xs : List Int}
theorem FS_esx (ok : InsOk cs gs) (m : Int → Bool) : FS (nzP cs gs) (spOf cs gs) m (esx cs gs xs) = (((nzP cs gs).filter m).map (fun p => spOf cs gs p + (((zsOf cs gs xs).map (movP p)).sum - ((zsOf cs gs xs).map (takP p)).sum))).sum := by
  rw [sum_add, sum_sub, mov_sum (nz_nodup cs gs) m (zsOf cs gs xs) ?_, tak_sum (nz_nodup cs gs) m (zsOf cs gs xs) ?_]
  · unfold FS spareS
    rw [esx_zs, List.map_map, ← sum_sub]
    congr 2
    apply List.map_congr_left
    intro z _
    obtain ⟨r, x⟩ := z
    cases r with
    | none => simp [wE, sg]
    | some r =>
      simp only [Function.comp, wE_some]
      cases h1 : inb m r.2 <;> cases h2 : m r.1 <;> simp [wB]
  · intro z hz r hr y hy
    obtain ⟨g, hg, e⟩ := zs_mem hz
    have := (route_wf ok hg (e ▸ hr)).2 y hy
    exact nz_mem.mpr ⟨this.2, by omega⟩
  · intro z hz r hr
    obtain ⟨g, hg, e⟩ := zs_mem hz
    have := cro_mem.mp (route_wf ok hg (e ▸ hr)).1
    exact nz_mem.mpr ⟨this.1, by omega⟩
theorem PS_esx (p : Int) : PS (spOf cs gs) p (esx cs gs xs) = - spOf cs gs p - ((zsOf cs gs xs).map (movP p)).sum := by
  unfold PS
  rw [esx_zs, List.map_map]
  congr 2
theorem ZS_esx : ZS (esx cs gs xs) = - ((zsOf cs gs xs).map (fun z => match z.1 with | none => z.2 | some _ => 0)).sum := by
  unfold ZS
  rw [esx_zs, List.map_map]
  congr 2
theorem exc_get {p : Nat} (h : p < cs.length) : (rExc cs gs)[p]'(by rw [rExc_len]; exact h) = mx (- spOf cs gs p) ∧ (rFre cs gs)[p]'(by rw [rFre_len]; exact h) = mx (spOf cs gs p) := by
  have hd : p < (rDem cs gs).length := by rw [rDem_len]; exact h
  have e1 : (rExc cs gs).getD p 0 = (rExc cs gs)[p]'(by rw [rExc_len]; exact h) := by rw [List.getD_eq_getElem?_getD, List.getElem?_eq_getElem (by rw [rExc_len]; exact h)]; rfl
  have e2 : (rFre cs gs).getD p 0 = (rFre cs gs)[p]'(by rw [rFre_len]; exact h) := by rw [List.getD_eq_getElem?_getD, List.getElem?_eq_getElem (by rw [rFre_len]; exact h)]; rfl
  rw [← e1, ← e2]
  unfold rExc rFre
  rw [exc_at h hd, fre_at h hd]
  unfold spOf
  rw [Int.toNat_natCast, List.getD_eq_getElem?_getD, List.getD_eq_getElem?_getD, List.getElem?_eq_getElem h, List.getElem?_eq_getElem hd]
  simp only [Option.getD_some]
  exact ⟨congrArg mx (by omega), trivial⟩
theorem zs_in (ok : InsOk cs gs) : ∀ z ∈ zsOf cs gs xs, ∀ r, z.1 = some r → (0 ≤ r.1 ∧ r.1 < (cs.length : Int)) ∧ ∀ y, r.2 = some y → 0 ≤ y ∧ y < (cs.length : Int) := by
  intro z hz r hr
  obtain ⟨g, hg, e⟩ := zs_mem hz
  exact route_in ok hg (e ▸ hr)
theorem mov_zero (ok : InsOk cs gs) {p : Int} (h : 0 ≤ spOf cs gs p) : ((zsOf cs gs xs).map (movP p)).sum = 0 := by
  refine sum_zero fun z hz => ?_
  obtain ⟨g, hg, e⟩ := zs_mem hz
  unfold movP
  cases hr : z.1 with
  | none => rfl
  | some r =>
    have h1 := cro_mem.mp (route_wf ok hg (e ▸ hr)).1
    have : r.1 ≠ p := fun e => by rw [e] at h1; omega
    simp [this]
theorem tak_zero (ok : InsOk cs gs) {p : Int} (h : spOf cs gs p ≤ 0) : ((zsOf cs gs xs).map (takP p)).sum = 0 := by
  refine sum_zero fun z hz => ?_
  obtain ⟨g, hg, e⟩ := zs_mem hz
  unfold takP
  cases hr : z.1 with
  | none => rfl
  | some r =>
    have h1 := (route_wf ok hg (e ▸ hr)).2
    have : r.2 ≠ some p := fun e => by have := h1 p e; omega
    simp [this]
theorem all_zip {α : Type} {as bs : List Int} (hl : as.length = bs.length) : (as.zip bs).all (fun z => decide (z.1 ≤ z.2)) = true ↔ ∀ (j : Nat) (h1 : j < as.length) (h2 : j < bs.length), as[j] ≤ bs[j] := by
  rw [List.all_eq_true]
  constructor
  · intro h j h1 h2
    have : (as.zip bs)[j]? = some (as[j], bs[j]) := by rw [List.getElem?_zip_eq_some]; exact ⟨List.getElem?_eq_getElem h1, List.getElem?_eq_getElem h2⟩
    simpa using h _ (List.mem_of_getElem? this)
  · intro h z hz
    obtain ⟨j, hj, e⟩ := List.mem_iff_getElem.mp hz
    rw [List.length_zip] at hj
    have := h j (by omega) (by omega)
    rw [← e]
    simpa using this
/-- the vectors are the integers that keep to all cuts -/
theorem vec_feas (ok : InsOk cs gs) (hb : ∀ z ∈ zsOf cs gs xs, 0 ≤ z.2) : meetsD cs gs xs = true ↔ Feas (nzP cs gs) (spOf cs gs) (rCro cs gs) (esx cs gs xs) := by
  have hlen := mvOf_len cs.length (zsOf cs gs xs)
  have hget := fun q => mv_get (zs_in (xs := xs) ok) q
  have takNN : ∀ p, 0 ≤ ((zsOf cs gs xs).map (takP p)).sum := fun p => sum_nn fun y hy => by
    obtain ⟨z, hz, rfl⟩ := List.mem_map.mp hy
    have := hb z hz
    unfold takP
    split
    · split <;> omega
    · omega
  have g1 : ∀ q (h : q < cs.length), (mvOf cs.length (zsOf cs gs xs)).1[q]'(by omega) = ((zsOf cs gs xs).map (movP q)).sum := fun q h => by
    rw [← (hget q).1, List.getD_eq_getElem?_getD, List.getElem?_eq_getElem (by omega)]; rfl
  have g2 : ∀ q (h : q < cs.length), (mvOf cs.length (zsOf cs gs xs)).2[q]'(by omega) = ((zsOf cs gs xs).map (takP q)).sum := fun q h => by
    rw [← (hget q).2, List.getD_eq_getElem?_getD, List.getElem?_eq_getElem (by omega)]; rfl
  have hm : meetsD cs gs xs = true ↔ (∀ z ∈ zsOf cs gs xs, z.1 = none → z.2 = 0) ∧ (∀ q (h : q < cs.length), ((zsOf cs gs xs).map (movP q)).sum = mx (- spOf cs gs q)) ∧ (∀ q (h : q < cs.length), ((zsOf cs gs xs).map (takP q)).sum ≤ mx (spOf cs gs q)) := by
    unfold meetsD
    rw [Bool.and_eq_true, Bool.and_eq_true, decide_eq_true_iff, all_zip (α := Int) (by rw [hlen.2, rFre_len])]
    refine ⟨fun h => ⟨fun z hz hn => ?_, fun q hq => ?_, fun q hq => ?_⟩, fun h => ⟨⟨?_, ?_⟩, fun j h1 h2 => ?_⟩⟩
    · have := List.all_eq_true.mp h.1.1 z hz
      unfold goodZ at this
      rw [hn] at this
      simpa using this
    · rw [← g1 q hq, ← (exc_get (gs := gs) hq).1]
      congr 1
      exact h.1.2
    · have := h.2 q (by omega) (by rw [rFre_len]; exact hq)
      rw [g2 q hq, (exc_get (gs := gs) hq).2] at this
      exact this
    · rw [List.all_eq_true]
      intro z hz
      unfold goodZ
      cases hr : z.1 with
      | none => simp [h.1 z hz hr]
      | some r => rfl
    · apply List.ext_getElem
      · rw [hlen.1, rExc_len]
      · intro q h1 h2
        have hq : q < cs.length := by omega
        rw [g1 q hq, (exc_get (gs := gs) hq).1, h.2.1 q hq]
    · have hq : j < cs.length := by omega
      rw [g2 j hq, (exc_get (gs := gs) hq).2]
      exact h.2.2 j hq
  rw [hm]
  constructor
  · rintro ⟨hz, hmv, htk⟩
    refine ⟨fun m => ?_, fun p hp => ?_, ?_⟩
    · rw [FS_esx ok]
      refine sum_nn fun y hy => ?_
      obtain ⟨p, hp, rfl⟩ := List.mem_map.mp hy
      have hp := nz_mem.mp (List.mem_filter.mp hp).1
      obtain ⟨pn, rfl⟩ : ∃ pn : Nat, p = pn := ⟨p.toNat, by omega⟩
      have h1 := hmv pn (by omega)
      have h2 := htk pn (by omega)
      unfold mx at h1 h2
      split at h1 <;> split at h2 <;> omega
    · rw [PS_esx]
      have hp := cro_mem.mp hp
      obtain ⟨pn, rfl⟩ : ∃ pn : Nat, p = pn := ⟨p.toNat, by omega⟩
      have h1 := hmv pn (by omega)
      unfold mx at h1
      split at h1 <;> omega
    · rw [ZS_esx, sum_zero]
      · decide
      · intro z hz'
        cases hr : z.1 with
        | none => exact hz z hz' hr
        | some r => rfl
  · intro Fe
    have one : ∀ p : Int, (0 ≤ p ∧ p < (cs.length : Int)) → spOf cs gs p ≠ 0 → 0 ≤ spOf cs gs p + (((zsOf cs gs xs).map (movP p)).sum - ((zsOf cs gs xs).map (takP p)).sum) := by
      intro p hp hs
      have := Fe.set (fun q => decide (q = p))
      rw [FS_esx ok] at this
      have hf : (nzP cs gs).filter (fun q => decide (q = p)) = [p] := by
        have hin : p ∈ nzP cs gs := nz_mem.mpr ⟨hp, hs⟩
        have nd := nz_nodup cs gs
        generalize nzP cs gs = N at hin nd
        induction N with
        | nil => cases hin
        | cons x N ih =>
          have nd' := List.nodup_cons.mp nd
          by_cases e : x = p
          · subst e
            rw [List.filter_cons_of_pos (by simp)]
            congr 1
            rw [List.filter_eq_nil_iff]
            intro q hq
            have : q ≠ x := fun z => nd'.1 (z ▸ hq)
            simp [this]
          · rw [List.filter_cons_of_neg (by simp [e])]
            rcases List.mem_cons.mp hin with h | h
            · exact absurd h.symm e
            · exact ih h nd'.2
      rw [hf] at this
      simpa using this
    refine ⟨fun z hz hn => ?_, fun q hq => ?_, fun q hq => ?_⟩
    · have h1 := Fe.z
      rw [ZS_esx] at h1
      have h2 : z.2 ≤ ((zsOf cs gs xs).map (fun z => match z.1 with | none => z.2 | some _ => 0)).sum := sum_ge (fun y hy => by
        obtain ⟨z', hz', rfl⟩ := List.mem_map.mp hy
        have := hb z' hz'
        split <;> omega) (List.mem_map.mpr ⟨z, hz, by rw [hn]⟩)
      have := hb z hz
      omega
    · by_cases hs : spOf cs gs q < 0
      · have h1 := one q (by omega) (by omega)
        have h2 := Fe.st q (cro_mem.mpr ⟨by omega, hs⟩)
        rw [PS_esx] at h2
        have h3 := tak_zero (xs := xs) ok (p := q) (by omega)
        unfold mx
        split <;> omega
      · have h1 := mov_zero (xs := xs) ok (p := q) (by omega)
        unfold mx
        split <;> omega
    · by_cases hs : 0 < spOf cs gs q
      · have h1 := one q (by omega) (by omega)
        have h3 := mov_zero (xs := xs) ok (p := q) (by omega)
        unfold mx
        split <;> omega
      · have h1 := tak_zero (xs := xs) ok (p := q) (by omega)
        unfold mx
        split <;> omega
end
/-! the program's own lists of cuts -/
def subsL (ps : List Int) : List (List Int) := ps.foldl (fun acc p => acc ++ acc.map (fun s => s ++ [p])) [[]]
theorem subsL_snoc (ps : List Int) (p : Int) : subsL (ps ++ [p]) = subsL ps ++ (subsL ps).map (fun s => s ++ [p]) := by simp [subsL, List.foldl_append]
def mem (s : List Int) (p : Int) : Bool := s.contains p
theorem subs_all (m : Int → Bool) (N : List Int) : N.filter m ∈ subsL N := by
  have : ∀ l : List Int, l.reverse.filter m ∈ subsL l.reverse := by
    intro l
    induction l with
    | nil => simp [subsL]
    | cons x l ih =>
      rw [List.reverse_cons, subsL_snoc, List.filter_append, List.mem_append]
      by_cases h : m x = true
      · right
        rw [List.filter_cons_of_pos h]
        exact List.mem_map.mpr ⟨_, ih, rfl⟩
      · left
        rw [List.filter_cons_of_neg h]
        simpa using ih
  have := this N.reverse
  rwa [List.reverse_reverse] at this
theorem subs_is {N : List Int} (nd : N.Nodup) {s : List Int} (h : s ∈ subsL N) : N.filter (mem s) = s := by
  have : ∀ l : List Int, l.reverse.Nodup → ∀ s ∈ subsL l.reverse, (∀ x ∈ s, x ∈ l.reverse) ∧ l.reverse.filter (mem s) = s := by
    intro l
    induction l with
    | nil => intro _ s hs; simp [subsL] at hs; subst hs; simp
    | cons x l ih =>
      intro nd s hs
      rw [List.reverse_cons] at nd hs ⊢
      have nd' := List.nodup_append.mp nd
      have hx : x ∉ l.reverse := fun h => nd'.2.2 x h x (by simp) rfl
      rw [subsL_snoc, List.mem_append] at hs
      rcases hs with hs | hs
      · obtain ⟨h1, h2⟩ := ih nd'.1 s hs
        have hxs : x ∉ s := fun z => hx (h1 x z)
        refine ⟨fun y hy => by simp [List.mem_reverse.mp (h1 y hy)], ?_⟩
        rw [List.filter_append, h2, List.filter_cons_of_neg (by simpa [mem] using hxs)]
        simp
      · obtain ⟨s', hs', rfl⟩ := List.mem_map.mp hs
        obtain ⟨h1, h2⟩ := ih nd'.1 s' hs'
        refine ⟨fun y hy => ?_, ?_⟩
        · rcases List.mem_append.mp hy with h | h
          · simp [List.mem_reverse.mp (h1 y h)]
          · simp at h; simp [h]
        · rw [List.filter_append, List.filter_cons_of_pos (by simp [mem])]
          congr 1
          conv => rhs; rw [← h2]
          apply List.filter_congr
          intro y hy
          have : y ≠ x := fun z => hx (z ▸ hy)
          simp [mem, this]
  have := (this N.reverse (by simpa using nd) s (by simpa using h)).2
  simpa using this
def zSg : Rt → Int
  | none => 1
  | some _ => 0
def stSg (p : Int) : Rt → Int
  | some r => if r.1 = p then 1 else 0
  | none => 0
section
variable (N : List Int) (sp : Int → Int) (C : List Int)
def slk (es : List Ed) : List Int := ZS es :: (C.map (fun p => PS sp p es) ++ (subsL N).map (fun s => FS N sp (mem s) es))
def sgn (r : Rt) : List Int := zSg r :: (C.map (fun p => stSg p r) ++ (subsL N).map (fun s => sg (mem s) r))
end
def lows (sl sg : List Int) (c : Int) : List Int := ((sl.zip sg).filter (fun z => decide (z.2 < 0))).map (fun z => c - z.1)
def highs (sl sg : List Int) : List Int := ((sl.zip sg).filter (fun z => decide (0 < z.2))).map (fun z => z.1)
theorem zip_app {α β : Type} {a1 a2 : List α} {b1 b2 : List β} (h : a1.length = b1.length) : (a1 ++ a2).zip (b1 ++ b2) = a1.zip b1 ++ a2.zip b2 := List.zip_append h
theorem zip_maps {α : Type} (f g : α → Int) (l : List α) : (l.map f).zip (l.map g) = l.map (fun x => (f x, g x)) := by
  induction l with
  | nil => rfl
  | cons x l ih => simp [ih]
theorem slk_zip (N : List Int) (sp : Int → Int) (C : List Int) (es : List Ed) (r : Rt) : (slk N sp C es).zip (sgn N C r) = (ZS es, zSg r) :: (C.map (fun p => (PS sp p es, stSg p r)) ++ (subsL N).map (fun s => (FS N sp (mem s) es, sg (mem s) r))) := by
  unfold slk sgn
  rw [List.zip_cons_cons, zip_app (by simp), zip_maps, zip_maps]
/-- FS looks at a set only by its posts in N -/
theorem FS_mem {N : List Int} {sp : Int → Int} {es : List Ed} (hes : ∀ e ∈ es, ∀ r, e.1 = some r → r.1 ∈ N ∧ ∀ y, r.2 = some y → y ∈ N) (m : Int → Bool) : FS N sp (mem (N.filter m)) es = FS N sp m es := by
  have hm : ∀ p ∈ N, mem (N.filter m) p = m p := by
    intro p hp
    unfold mem
    rw [Bool.eq_iff_iff, List.contains_iff_mem, List.mem_filter]
    exact ⟨fun h => h.2, fun h => ⟨hp, h⟩⟩
  unfold FS spareS
  congr 1
  · rw [List.filter_congr hm]
  · congr 1
    apply List.map_congr_left
    intro e he
    obtain ⟨r, l, u⟩ := e
    cases r with
    | none => simp [wE, sg]
    | some r =>
      have h1 := hes _ he r rfl
      rw [wE_some, wE_some, hm _ h1.1]
      congr 1
      cases hr : r.2 with
      | none => rfl
      | some y => exact hm y (h1.2 y hr)
theorem sg_mem {N : List Int} {r : Rt} (h : ∀ q, r = some q → q.1 ∈ N ∧ ∀ y, q.2 = some y → y ∈ N) (m : Int → Bool) : sg (mem (N.filter m)) r = sg m r := by
  have hm : ∀ p ∈ N, mem (N.filter m) p = m p := by
    intro p hp
    unfold mem
    rw [Bool.eq_iff_iff, List.contains_iff_mem, List.mem_filter]
    exact ⟨fun h => h.2, fun h => ⟨hp, h⟩⟩
  cases r with
  | none => rfl
  | some q =>
    have h1 := h q rfl
    have : inb (mem (N.filter m)) q.2 = inb m q.2 := by
      cases hr : q.2 with
      | none => rfl
      | some y => exact hm y (h1.2 y hr)
    simp only [sg, hm _ h1.1, this]
end Pv

namespace Pv
def IsMax (a : Int) (l : List Int) : Prop := a ∈ l ∧ ∀ y ∈ l, y ≤ a
def IsMin (a : Int) (l : List Int) : Prop := a ∈ l ∧ ∀ y ∈ l, a ≤ y
section
variable {N : List Int} {sp : Int → Int} {C : List Int} {es : List Ed}
theorem low_mem {r : Rt} {c y : Int} : y ∈ lows (slk N sp C es) (sgn N C r) c ↔ ∃ s ∈ subsL N, sg (mem s) r < 0 ∧ y = c - FS N sp (mem s) es := by
  unfold lows
  rw [slk_zip]
  simp only [List.mem_map, List.mem_filter, List.mem_cons, List.mem_append, decide_eq_true_eq]
  constructor
  · rintro ⟨z, ⟨h | h | h, hn⟩, rfl⟩
    · subst h; simp only at hn; cases r <;> simp [zSg] at hn
    · obtain ⟨p, hp, rfl⟩ := h; simp only at hn; cases r with | none => simp [stSg] at hn | some r => simp only [stSg] at hn; split at hn <;> omega
    · obtain ⟨s, hs, rfl⟩ := h; exact ⟨s, hs, hn, rfl⟩
  · rintro ⟨s, hs, hn, rfl⟩
    exact ⟨_, ⟨.inr (.inr ⟨s, hs, rfl⟩), hn⟩, rfl⟩
theorem high_mem {r : Rt} {y : Int} : y ∈ highs (slk N sp C es) (sgn N C r) ↔ (r = none ∧ y = ZS es) ∨ (∃ q, r = some q ∧ q.1 ∈ C ∧ y = PS sp q.1 es) ∨ ∃ s ∈ subsL N, 0 < sg (mem s) r ∧ y = FS N sp (mem s) es := by
  unfold highs
  rw [slk_zip]
  simp only [List.mem_map, List.mem_filter, List.mem_cons, List.mem_append, decide_eq_true_eq]
  constructor
  · rintro ⟨z, ⟨h | h | h, hn⟩, rfl⟩
    · subst h
      simp only at hn
      cases r with
      | none => exact .inl ⟨rfl, rfl⟩
      | some r => simp [zSg] at hn
    · obtain ⟨p, hp, rfl⟩ := h
      simp only at hn
      cases r with
      | none => simp [stSg] at hn
      | some r =>
        simp only [stSg] at hn
        split at hn
        case isTrue e => exact .inr (.inl ⟨r, rfl, e ▸ hp, by rw [e]⟩)
        case isFalse e => omega
    · obtain ⟨s, hs, rfl⟩ := h; exact .inr (.inr ⟨s, hs, hn, rfl⟩)
  · rintro (⟨rfl, rfl⟩ | ⟨q, rfl, hq, rfl⟩ | ⟨s, hs, hn, rfl⟩)
    · exact ⟨_, ⟨.inl rfl, by simp [zSg]⟩, rfl⟩
    · exact ⟨_, ⟨.inr (.inl ⟨q.1, hq, rfl⟩), by simp [stSg]⟩, rfl⟩
    · exact ⟨_, ⟨.inr (.inr ⟨s, hs, rfl⟩), hn⟩, rfl⟩
def RIn (N : List Int) (es : List Ed) : Prop := ∀ e ∈ es, ∀ r, e.1 = some r → r.1 ∈ N ∧ ∀ y, r.2 = some y → y ∈ N
/-- the range that the program tells is what is open -/
theorem range_ok (W : Wf N C es) (R : RIn N es) (Fe : Feas N sp C es) {j : Nat} {r : Rt} {c : Int} (he : es[j]? = some (r, 0, c)) {a b : Int} (ha : IsMax a (0 :: lows (slk N sp C es) (sgn N C r) c)) (hb : IsMin b (c :: highs (slk N sp C es) (sgn N C r))) :
    (0 ≤ a ∧ a ≤ c ∧ Opn N sp es (r, 0, c) a) ∧ (0 ≤ b ∧ b ≤ c ∧ Opn N sp es (r, 0, c) b) ∧ ∀ x, 0 ≤ x → x ≤ c → (Opn N sp es (r, 0, c) x ↔ a ≤ x ∧ x ≤ b) := by
  have hm := List.mem_of_getElem? he
  have hc : (0 : Int) ≤ c := W.lu _ hm
  have hr : ∀ q, r = some q → q.1 ∈ N ∧ ∀ y, q.2 = some y → y ∈ N := fun q e => R _ hm q e
  have lo : ∀ m, sg m r < 0 → c - FS N sp m es ≤ a := by
    intro m h
    refine ha.2 _ (List.mem_cons_of_mem _ (low_mem.mpr ⟨N.filter m, subs_all m N, by rw [sg_mem hr]; exact h, by rw [FS_mem R]⟩))
  have hi : ∀ m, 0 < sg m r → b ≤ FS N sp m es := by
    intro m h
    refine hb.2 _ (List.mem_cons_of_mem _ (high_mem.mpr (.inr (.inr ⟨N.filter m, subs_all m N, by rw [sg_mem hr]; exact h, by rw [FS_mem R]⟩))))
  have hp : ∀ q, r = some q → b ≤ PS sp q.1 es := fun q e => hb.2 _ (List.mem_cons_of_mem _ (high_mem.mpr (.inr (.inl ⟨q, e, W.a _ hm q e, rfl⟩))))
  have hz : r = none → b ≤ ZS es := fun e => hb.2 _ (List.mem_cons_of_mem _ (high_mem.mpr (.inl ⟨e, rfl⟩)))
  have a0 : 0 ≤ a := ha.2 0 (by simp)
  have bc : b ≤ c := hb.2 c (by simp)
  have oa : Opn N sp es (r, 0, c) a := by
    refine opn_least W Fe hm lo ?_
    rcases List.mem_cons.mp ha.1 with h | h
    · exact .inl h
    · obtain ⟨s, _, h1, h2⟩ := low_mem.mp h
      exact .inr ⟨mem s, h1, h2⟩
  have ob : Opn N sp es (r, 0, c) b := by
    refine opn_most W Fe hm (fun m h => by have := hi m h; simp only; omega) (fun q e => by have := hp q e; simp only; omega) (fun e => by have := hz e; simp only; omega) ?_
    rcases List.mem_cons.mp hb.1 with h | h
    · exact .inl h
    · rcases high_mem.mp h with ⟨e, h⟩ | ⟨q, e, _, h⟩ | ⟨s, _, h1, h2⟩
      · exact .inr (.inr (.inr ⟨e, by simp only; omega⟩))
      · exact .inr (.inr (.inl ⟨q, e, by simp only; omega⟩))
      · exact .inr (.inl ⟨mem s, h1, by simp only; omega⟩)
  have ac : a ≤ c := by
    rcases List.mem_cons.mp ha.1 with h | h
    · omega
    · obtain ⟨s, _, h1, h2⟩ := low_mem.mp h
      have := Fe.set (mem s)
      omega
  have b0 : 0 ≤ b := by
    rcases List.mem_cons.mp hb.1 with h | h
    · omega
    · rcases high_mem.mp h with ⟨e, h⟩ | ⟨q, e, hq, h⟩ | ⟨s, _, h1, h2⟩
      · have := Fe.z; omega
      · have := Fe.st _ hq; omega
      · have := Fe.set (mem s); omega
  refine ⟨⟨a0, ac, oa⟩, ⟨b0, bc, ob⟩, fun x x0 xc => ⟨fun o => ⟨?_, ?_⟩, fun h => ⟨fun m hm => ?_, fun m hm => ?_, fun q e => ?_, fun e => ?_⟩⟩⟩
  · rcases List.mem_cons.mp ha.1 with h | h
    · omega
    · obtain ⟨s, _, h1, h2⟩ := low_mem.mp h
      have := o.lo (mem s) h1
      simp only at this; omega
  · rcases List.mem_cons.mp hb.1 with h | h
    · omega
    · rcases high_mem.mp h with ⟨e, h⟩ | ⟨q, e, hq, h⟩ | ⟨s, _, h1, h2⟩
      · have := o.z e; simp only at this; omega
      · have := o.p q e; simp only at this; omega
      · have := o.hi (mem s) h1; simp only at this; omega
  · have := lo m hm; simp only; omega
  · have := hi m hm; simp only; omega
  · have := hp q e; simp only; omega
  · have := hz e; simp only; omega
/-- what a group's integer takes of each slack -/
def used (c x s : Int) : Int := if s < 0 then c - x else if 0 < s then x else 0
theorem slk_set {j : Nat} {r : Rt} {c : Int} (he : es[j]? = some (r, 0, c)) (x : Int) : slk N sp C (es.set j (r, x, x)) = List.zipWith (fun s g => s - used c x g) (slk N sp C es) (sgn N C r) := by
  unfold slk sgn
  rw [List.zipWith_cons_cons, List.zipWith_append (by simp), List.zipWith_map, List.zipWith_map, List.zipWith_self, List.zipWith_self]
  congr 1
  · rw [Z_set he]
    cases r <;> simp [lZ, zSg, used]
  · congr 1
    · apply List.map_congr_left
      intro p _
      rw [P_set he]
      cases r with
      | none => simp [lP, stSg, used]
      | some q =>
        simp only [lP, stSg, used]
        by_cases h : q.1 = p <;> simp [h]
    · apply List.map_congr_left
      intro s _
      rw [F_set he]
      unfold wE used
      simp only
      by_cases h1 : sg (mem s) r < 0
      · simp only [h1, if_true]; omega
      · by_cases h2 : 0 < sg (mem s) r
        · simp only [h1, h2, if_true, if_false]; omega
        · simp only [h1, h2, if_false]; omega
end
/-! vectors -/
def IsVec (cs : List Int) (gs : List Gp) (xs : List Int) : Prop := xs.length = gs.length ∧ (∀ (j : Nat) (g : Gp) (x : Int), gs[j]? = some g → xs[j]? = some x → 0 ≤ x ∧ x ≤ g.2) ∧ meetsD cs gs xs = true
abbrev FeasI (cs : List Int) (gs : List Gp) (es : List Ed) : Prop := Feas (nzP cs gs) (spOf cs gs) (rCro cs gs) es
section
variable {cs : List Int} {gs : List Gp} {xs : List Int}
theorem zs_nn (hl : xs.length = gs.length) (hb : ∀ (j : Nat) (g : Gp) (x : Int), gs[j]? = some g → xs[j]? = some x → 0 ≤ x ∧ x ≤ g.2) : ∀ z ∈ zsOf cs gs xs, 0 ≤ z.2 := by
  intro z hz
  obtain ⟨j, hj, e⟩ := List.mem_iff_getElem.mp hz
  have hjg : j < gs.length := by have := hj; unfold zsOf at this; rw [List.length_zip, List.length_map] at this; omega
  have e2 := zs_at (cs := cs) hl hjg
  rw [List.getElem?_eq_getElem hj, e] at e2
  cases e2
  exact (hb j gs[j] xs[j] (List.getElem?_eq_getElem hjg) (List.getElem?_eq_getElem (by omega))).1
theorem vec_iff (ok : InsOk cs gs) : IsVec cs gs xs ↔ xs.length = gs.length ∧ (∀ (j : Nat) (g : Gp) (x : Int), gs[j]? = some g → xs[j]? = some x → 0 ≤ x ∧ x ≤ g.2) ∧ FeasI cs gs (esx cs gs xs) := by
  unfold IsVec
  constructor
  · rintro ⟨h1, h2, h3⟩; exact ⟨h1, h2, (vec_feas ok (zs_nn h1 h2)).mp h3⟩
  · rintro ⟨h1, h2, h3⟩; exact ⟨h1, h2, (vec_feas ok (zs_nn h1 h2)).mpr h3⟩
theorem rin_es0 (ok : InsOk cs gs) : RIn (nzP cs gs) (es0 cs gs) := by
  intro e he r hr
  obtain ⟨g, hg, rfl⟩ := List.mem_map.mp he
  have h := route_wf ok hg hr
  have h1 := cro_mem.mp h.1
  exact ⟨nz_mem.mpr ⟨h1.1, by omega⟩, fun y hy => by have := h.2 y hy; exact nz_mem.mpr ⟨this.2, by omega⟩⟩
/-- groups j with their integers, the others open -/
theorem vec_of_feas (ok : InsOk cs gs) {es : List Ed} (hl : es.length = gs.length) (hr : ∀ (j : Nat) (e : Ed) (g : Gp), es[j]? = some e → gs[j]? = some g → e.1 = routeOf cs gs g ∧ 0 ≤ e.2.1 ∧ e.2.1 ≤ e.2.2 ∧ e.2.2 ≤ g.2) (Fe : FeasI cs gs es) :
    ∃ xs, IsVec cs gs xs ∧ ∀ (j : Nat) (e : Ed) (x : Int), es[j]? = some e → xs[j]? = some x → e.2.1 ≤ x ∧ x ≤ e.2.2 := by
  have W : Wf (nzP cs gs) (rCro cs gs) es := wf_of ok fun e he => by
    obtain ⟨j, hj, e1⟩ := List.mem_iff_getElem.mp he
    have := hr j e gs[j] (by rw [List.getElem?_eq_getElem hj, e1]) (List.getElem?_eq_getElem (by omega))
    exact ⟨this.2.2.1, gs[j], List.getElem_mem _, this.1⟩
  obtain ⟨xs, lx, bx, Fx⟩ := complete W Fe
  refine ⟨xs, (vec_iff ok).mpr ⟨by omega, fun j g x hg hx => ?_, ?_⟩, bx⟩
  · have hj : j < es.length := by have := (List.getElem?_eq_some_iff.mp hg).1; omega
    have h1 := bx j es[j] x (List.getElem?_eq_getElem hj) hx
    have h2 := hr j es[j] g (List.getElem?_eq_getElem hj) hg
    omega
  · have : List.zipWith (fun (e : Ed) x => ((e.1, x, x) : Ed)) es xs = esx cs gs xs := by
      unfold esx
      apply List.ext_getElem
      · simp; omega
      · intro j h1 h2
        rw [List.length_zipWith] at h1
        rw [List.getElem_zipWith, List.getElem_zipWith]
        rw [(hr j es[j] gs[j] (List.getElem?_eq_getElem (by omega)) (List.getElem?_eq_getElem (by omega))).1]
    rw [this] at Fx
    exact Fx
theorem feas_of_vec (ok : InsOk cs gs) (hv : IsVec cs gs xs) {es : List Ed} (hl : es.length = gs.length) (hr : ∀ (j : Nat) (e : Ed) (g : Gp) (x : Int), es[j]? = some e → gs[j]? = some g → xs[j]? = some x → e.1 = routeOf cs gs g ∧ e.2.1 ≤ x ∧ x ≤ e.2.2) : FeasI cs gs es := by
  obtain ⟨h1, h2, h3⟩ := (vec_iff ok).mp hv
  refine feas_loose h3 (by unfold esx; rw [List.length_zipWith]; omega) fun j e f he hf => ?_
  have hj : j < gs.length := by have := (List.getElem?_eq_some_iff.mp he).1; omega
  have hf2 : f = (routeOf cs gs gs[j], xs[j], xs[j]) := by
    unfold esx at hf
    rw [List.getElem?_zipWith, List.getElem?_eq_getElem hj, List.getElem?_eq_getElem (show j < xs.length by omega)] at hf
    simpa using hf.symm
  have := hr j e gs[j] xs[j] he (List.getElem?_eq_getElem hj) (List.getElem?_eq_getElem (by omega))
  subst hf2
  exact this
theorem es0_at {j : Nat} {g : Gp} (hg : gs[j]? = some g) : (es0 cs gs)[j]? = some (routeOf cs gs g, 0, g.2) := by
  unfold es0; rw [List.getElem?_map, hg]; rfl
/-- there is a vector exactly if all cuts have slack -/
theorem some_vec (ok : InsOk cs gs) : (∃ xs, IsVec cs gs xs) ↔ FeasI cs gs (es0 cs gs) := by
  constructor
  · rintro ⟨xs, hv⟩
    refine feas_of_vec ok hv (by simp [es0]) fun j e g x he hg hx => ?_
    rw [es0_at hg] at he
    cases he
    exact ⟨rfl, hv.2.1 j g x hg hx⟩
  · intro Fe
    obtain ⟨xs, hv, _⟩ := vec_of_feas ok (by simp [es0]) (fun j e g he hg => by
      rw [es0_at hg] at he
      cases he
      exact ⟨rfl, Int.le_refl _, by have := (ok.gp g (List.mem_of_getElem? hg)).2.2.1; simp only; omega, Int.le_refl _⟩) Fe
    exact ⟨xs, hv⟩
/-- the range of a group in all vectors -/
theorem range_vec (ok : InsOk cs gs) (Fe : FeasI cs gs (es0 cs gs)) {j : Nat} {g : Gp} (hg : gs[j]? = some g) {a b : Int} (ha : IsMax a (0 :: lows (slk (nzP cs gs) (spOf cs gs) (rCro cs gs) (es0 cs gs)) (sgn (nzP cs gs) (rCro cs gs) (routeOf cs gs g)) g.2))
    (hb : IsMin b (g.2 :: highs (slk (nzP cs gs) (spOf cs gs) (rCro cs gs) (es0 cs gs)) (sgn (nzP cs gs) (rCro cs gs) (routeOf cs gs g)))) :
    (∃ xs, IsVec cs gs xs ∧ xs[j]? = some a) ∧ (∃ xs, IsVec cs gs xs ∧ xs[j]? = some b) ∧ (∀ xs x, IsVec cs gs xs → xs[j]? = some x → a ≤ x ∧ x ≤ b) ∧ ∀ x, a ≤ x → x ≤ b → ∃ xs, IsVec cs gs xs ∧ xs[j]? = some x := by
  have he := es0_at (cs := cs) hg
  have W := wf_es0 ok
  obtain ⟨⟨a0, ac, oa⟩, ⟨b0, bc, ob⟩, hx⟩ := range_ok W (rin_es0 ok) Fe he ha hb
  have hjg := (List.getElem?_eq_some_iff.mp hg).1
  have ex : ∀ x, 0 ≤ x → x ≤ g.2 → Opn (nzP cs gs) (spOf cs gs) (es0 cs gs) (routeOf cs gs g, 0, g.2) x → ∃ xs, IsVec cs gs xs ∧ xs[j]? = some x := by
    intro x x0 xc o
    have F' := (opn_iff W Fe he x).mpr o
    obtain ⟨xs, hv, bx⟩ := vec_of_feas ok (by simp [es0]) (fun k e g' he' hg' => by
      by_cases hk : k = j
      · subst hk
        rw [List.getElem?_set_self (by simp [es0]; exact hjg)] at he'
        rw [hg] at hg'
        cases he'
        cases hg'
        exact ⟨rfl, x0, Int.le_refl _, xc⟩
      · rw [List.getElem?_set_ne (fun z => hk z.symm), es0_at hg'] at he'
        cases he'
        exact ⟨rfl, Int.le_refl _, by have := (ok.gp g' (List.mem_of_getElem? hg')).2.2.1; simp only; omega, Int.le_refl _⟩) F'
    refine ⟨xs, hv, ?_⟩
    have hjx : j < xs.length := by rw [hv.1]; exact hjg
    have := bx j _ xs[j] (List.getElem?_set_self (by simp [es0]; exact hjg)) (List.getElem?_eq_getElem hjx)
    rw [List.getElem?_eq_getElem hjx]
    simp only at this
    congr 1; omega
  refine ⟨ex a a0 ac oa, ex b b0 bc ob, fun xs x hv hxj => ?_, fun x h1 h2 => ex x (by omega) (by omega) ((hx x (by omega) (by omega)).mpr ⟨h1, h2⟩)⟩
  have hb := hv.2.1 j g x hg hxj
  refine (hx x hb.1 hb.2).mp ?_
  refine (opn_iff W Fe he x).mp (feas_of_vec ok hv (by simp [es0]) fun k e g' y he' hg' hy => ?_)
  by_cases hk : k = j
  · subst hk
    rw [List.getElem?_set_self (by simp [es0]; exact hjg)] at he'
    rw [hg] at hg'
    rw [hxj] at hy
    cases he'
    cases hg'
    cases hy
    exact ⟨rfl, Int.le_refl _, Int.le_refl _⟩
  · rw [List.getElem?_set_ne (fun z => hk z.symm), es0_at hg'] at he'
    cases he'
    exact ⟨rfl, hv.2.1 k g' y hg' hy⟩
end
end Pv

namespace Pv
open PySem PySem.Spec PyProof.Rows L2
/-! vectors and assignments -/
theorem zip_self_map {α β γ : Type} (f : α × β → γ) : ∀ (as : List α) (bs : List β), as.length = bs.length → as.zip ((as.zip bs).map f) = (as.zip bs).map (fun z => (z.1, f z))
  | [], [], _ => rfl
  | a :: as, b :: bs, h => by
    have ih := zip_self_map f as bs (by simpa using h)
    simp [ih]
  | [], _ :: _, h => by simp at h
  | _ :: _, [], h => by simp at h
theorem zip_fst {α β : Type} : ∀ {as : List α} {bs : List β}, as.length = bs.length → (as.zip bs).map (fun z => z.1) = as
  | [], [], _ => rfl
  | a :: as, b :: bs, h => by
    have ih := zip_fst (as := as) (bs := bs) (by simpa using h)
    simp [ih]
  | [], _ :: _, h => by simp at h
  | _ :: _, [], h => by simp at h
theorem zip_snd {α β : Type} : ∀ {as : List α} {bs : List β}, as.length = bs.length → (as.zip bs).map (fun z => z.2) = bs
  | [], [], _ => rfl
  | a :: as, b :: bs, h => by
    have ih := zip_snd (as := as) (bs := bs) (by simpa using h)
    simp [ih]
  | [], _ :: _, h => by simp at h
  | _ :: _, [], h => by simp at h
def mn (a b : Int) : Int := if b < a then b else a
def headC (q : Int) (g : Gp) : Int := match g.1 with | [] => 0 | p :: _ => if p = q then g.2 else 0
theorem dem_fold {n : Nat} : ∀ (gs : List Gp) (l : List Int), l.length = n → (∀ g ∈ gs, ∀ p ∈ g.1, 0 ≤ p ∧ p < (n : Int)) → ∀ q : Nat, (gs.foldl dAdd l).getD q 0 = l.getD q 0 + (gs.map (headC q)).sum
  | [], l, _, _, q => by simp
  | g :: gs, l, hl, h, q => by
    have ih := dem_fold gs (dAdd l g) (by rw [dAdd_len]; exact hl) (fun g' hg' => h g' (List.mem_cons_of_mem _ hg')) q
    rw [List.foldl_cons, ih, List.map_cons, List.sum_cons]
    have : (dAdd l g).getD q 0 = l.getD q 0 + headC q g := by
      unfold dAdd headC
      cases e : g.1 with
      | nil => simp
      | cons p ps =>
        have hp := h g List.mem_cons_self p (by rw [e]; exact List.mem_cons_self)
        obtain ⟨m, rfl⟩ : ∃ m : Nat, p = (m : Int) := ⟨p.toNat, by omega⟩
        have := addAt_get (ls := l) (p := m) (q := q) (x := g.2) (by omega)
        simp only
        rw [this]
        congr 1
        by_cases e2 : m = q
        · rw [if_pos e2, if_pos (by omega)]
        · rw [if_neg e2, if_neg (by omega)]
    rw [this]; omega
theorem dem_get {n : Nat} {gs : List Gp} (h : ∀ g ∈ gs, ∀ p ∈ g.1, 0 ≤ p ∧ p < (n : Int)) (q : Nat) : (demOf n gs).getD q 0 = (gs.map (headC q)).sum := by
  unfold demOf
  rw [dem_fold gs (zeros n) (by simp [zeros]) h q]
  have : (zeros n).getD q 0 = 0 := by
    unfold zeros
    rw [List.getD_eq_getElem?_getD, List.getElem?_replicate]
    split <;> rfl
  omega
section
variable {cs : List Int} {gs : List Gp} {xs : List Int} {rows : List (List Int)}
def resC (cs : List Int) (gs : List Gp) (g : Gp) : Nat := resOf g.1 (rCla cs gs)
def rowV (g : Gp) (r : Nat) (x : Int) : List Int := addAt ((zeros (g.1.length + 1)).set 0 (g.2 - x)) (r : Int) x
def asOf (cs : List Int) (gs : List Gp) (xs : List Int) : List (List Int) := (gs.zip xs).map fun z => rowV z.1 (resC cs gs z.1) z.2
def xOf (cs : List Int) (gs : List Gp) (z : Gp × List Int) : Int := match routeOf cs gs z.1 with | none => 0 | some _ => z.2.getD (resC cs gs z.1) 0
def vecOf (cs : List Int) (gs : List Gp) (rows : List (List Int)) : List Int := (gs.zip rows).map (xOf cs gs)
def onlyB (cs : List Int) (gs : List Gp) (zs : List (Gp × List Int)) : Bool := zs.all fun z => (List.range z.2.length).all fun k => decide (k = 0 ∨ k = resC cs gs z.1) || !decide (0 < z.2.getD k 0)
def servedOf (n : Nat) (zs : List (Gp × List Int)) : List Int := demOf n (zs.map fun z => ((z.1.1, z.2.getD 0 0) : Gp))
def metOf (cs : List Int) (gs : List Gp) : List Int := (cs.zip (rDem cs gs)).map fun z => mn z.1 z.2
def unbB (cs : List Int) (gs : List Gp) (rows : List (List Int)) : Bool := onlyB cs gs (gs.zip rows) && decide (servedOf cs.length (gs.zip rows) = metOf cs gs)
def Shp (gs : List Gp) (rows : List (List Int)) : Prop := rows.length = gs.length ∧ ∀ z ∈ gs.zip rows, z.2.length = z.1.1.length + 1
theorem resC_le (g : Gp) : resC cs gs g ≤ g.1.length := resOf_le ..
theorem resC_pos {g : Gp} (h : g.1 ≠ []) : 1 ≤ resC cs gs g := by
  unfold resC resOf
  cases e : (List.range' 1 (g.1.length - 1)).find? (isFree g.1 (rCla cs gs)) with
  | none => have : g.1.length ≠ 0 := fun z => h (List.length_eq_zero_iff.mp z); simp; omega
  | some k =>
    have := List.mem_of_find?_eq_some e
    rw [List.mem_range'] at this
    obtain ⟨i, _, rfl⟩ := this
    simp
theorem rowV_len (g : Gp) (r : Nat) (x : Int) : (rowV g r x).length = g.1.length + 1 := by unfold rowV; rw [addAt_len]; simp [zeros]
theorem rowV_get {g : Gp} {r : Nat} {x : Int} (hr : r ≤ g.1.length) (k : Nat) : (rowV g r x).getD k 0 = (if k = 0 then g.2 - x else 0) + (if r = k then x else 0) := by
  unfold rowV
  rw [addAt_get (by simp [zeros]; omega)]
  congr 1
  rw [List.getD_eq_getElem?_getD, List.getElem?_set]
  by_cases e : k = 0
  · subst e; simp [zeros]
  · rw [if_neg (fun z => e z.symm), if_neg e]
    unfold zeros
    rw [List.getElem?_replicate]
    split <;> rfl
theorem meets_sums (ok : InsOk cs gs) : meetsD cs gs xs = true ↔ (∀ z ∈ zsOf cs gs xs, z.1 = none → z.2 = 0) ∧ (∀ q (h : q < cs.length), ((zsOf cs gs xs).map (movP q)).sum = mx (- spOf cs gs q)) ∧ (∀ q (h : q < cs.length), ((zsOf cs gs xs).map (takP q)).sum ≤ mx (spOf cs gs q)) := by
  have hlen := mvOf_len cs.length (zsOf cs gs xs)
  have hget := fun q => mv_get (zs_in (xs := xs) ok) q
  have g1 : ∀ q (h : q < cs.length), (mvOf cs.length (zsOf cs gs xs)).1[q]'(by omega) = ((zsOf cs gs xs).map (movP q)).sum := fun q h => by
    rw [← (hget q).1, List.getD_eq_getElem?_getD, List.getElem?_eq_getElem (by omega)]; rfl
  have g2 : ∀ q (h : q < cs.length), (mvOf cs.length (zsOf cs gs xs)).2[q]'(by omega) = ((zsOf cs gs xs).map (takP q)).sum := fun q h => by
    rw [← (hget q).2, List.getD_eq_getElem?_getD, List.getElem?_eq_getElem (by omega)]; rfl
  unfold meetsD
  rw [Bool.and_eq_true, Bool.and_eq_true, decide_eq_true_iff, all_zip (α := Int) (by rw [hlen.2, rFre_len])]
  refine ⟨fun h => ⟨fun z hz hn => ?_, fun q hq => ?_, fun q hq => ?_⟩, fun h => ⟨⟨?_, ?_⟩, fun j h1 h2 => ?_⟩⟩
  · have := List.all_eq_true.mp h.1.1 z hz
    unfold goodZ at this
    rw [hn] at this
    simpa using this
  · rw [← g1 q hq, ← (exc_get (gs := gs) hq).1]
    congr 1
    exact h.1.2
  · have := h.2 q (by omega) (by rw [rFre_len]; exact hq)
    rw [g2 q hq, (exc_get (gs := gs) hq).2] at this
    exact this
  · rw [List.all_eq_true]
    intro z hz
    unfold goodZ
    cases hr : z.1 with
    | none => simp [h.1 z hz hr]
    | some r => rfl
  · refine List.ext_getElem (by rw [hlen.1, rExc_len]) fun q q1 q2 => ?_
    have hq : q < cs.length := by rw [hlen.1] at q1; exact q1
    rw [g1 q hq, h.2.1 q hq, (exc_get (gs := gs) hq).1]
  · have hq : j < cs.length := by rw [hlen.2] at h1; exact h1
    rw [g2 j hq, (exc_get (gs := gs) hq).2]
    exact h.2.2 j hq
theorem zs_map (f : Rt × Int → Int) : (zsOf cs gs xs).map f = (gs.zip xs).map (fun z => f (routeOf cs gs z.1, z.2)) := by
  unfold zsOf
  rw [List.zip_map_left, List.map_map]; rfl
theorem heads_in (ok : InsOk cs gs) : ∀ g ∈ gs, ∀ p ∈ g.1, 0 ≤ p ∧ p < (cs.length : Int) := fun g hg p hp => (ok.gp g hg).2.1 p hp
theorem sp_at (ok : InsOk cs gs) (q : Nat) : spOf cs gs q = cs.getD q 0 - (gs.map (headC q)).sum := by
  unfold spOf rDem
  rw [Int.toNat_natCast, dem_get (heads_in ok)]
theorem met_at {q : Nat} (h : q < cs.length) : (metOf cs gs).getD q 0 = cs.getD q 0 - mx (spOf cs gs q) := by
  have hd : q < (rDem cs gs).length := by rw [rDem_len]; exact h
  unfold metOf
  rw [List.getD_eq_getElem?_getD, List.getElem?_map, List.getElem?_eq_getElem (by rw [List.length_zip]; omega)]
  simp only [List.getElem_zip, Option.map_some, Option.getD_some]
  unfold spOf mn mx
  rw [Int.toNat_natCast, List.getD_eq_getElem?_getD, List.getElem?_eq_getElem h, List.getD_eq_getElem?_getD, List.getElem?_eq_getElem hd]
  simp only [Option.getD_some]
  split <;> split <;> omega
theorem met_len : (metOf cs gs).length = cs.length := by unfold metOf; rw [List.length_map, List.length_zip, rDem_len]; omega
theorem served_len (zs : List (Gp × List Int)) (n : Nat) : (servedOf n zs).length = n := demOf_len ..
theorem served_at {zs : List (Gp × List Int)} {n : Nat} (h : ∀ z ∈ zs, ∀ p ∈ z.1.1, 0 ≤ p ∧ p < (n : Int)) (q : Nat) : (servedOf n zs).getD q 0 = (zs.map (fun z => headC q (z.1.1, z.2.getD 0 0))).sum := by
  unfold servedOf
  rw [dem_get (fun g hg => by obtain ⟨z, hz, rfl⟩ := List.mem_map.mp hg; exact h z hz), List.map_map]; rfl
theorem claims_iff {zs : List (Gp × List Int)} : servedOf cs.length zs = metOf cs gs ↔ ∀ q, q < cs.length → (servedOf cs.length zs).getD q 0 = (metOf cs gs).getD q 0 := by
  constructor
  · intro h q _; rw [h]
  · intro h
    refine List.ext_getElem (by rw [served_len, met_len]) fun q q1 q2 => ?_
    have := h q (by rw [met_len] at q2; exact q2)
    rwa [List.getD_eq_getElem?_getD, List.getD_eq_getElem?_getD, List.getElem?_eq_getElem q1, List.getElem?_eq_getElem q2] at this
theorem zip_in {α β : Type} {as : List α} {bs : List β} {z : α × β} (h : z ∈ as.zip bs) : z.1 ∈ as ∧ z.2 ∈ bs := List.of_mem_zip (a := z.1) (b := z.2) h
end
end Pv

namespace Pv
open PySem PySem.Spec PyProof.Rows L2
section
variable {cs : List Int} {gs : List Gp} {xs : List Int} {rows : List (List Int)}
theorem mx_two (s : Int) : mx s - mx (-s) = s := by unfold mx; split <;> split <;> omega
theorem route_head {g : Gp} {r : Int × Option Int} (h : routeOf cs gs g = some r) : ∃ p ps, g.1 = p :: ps ∧ r.1 = p ∧ r.2 = g.1[resC cs gs g]? ∧ (rCro cs gs).contains p = true := by
  unfold routeOf at h
  cases e : g.1 with
  | nil => rw [e] at h; cases h
  | cons p ps =>
    rw [e] at h
    simp only at h
    split at h
    case isFalse => cases h
    case isTrue hc => cases h; exact ⟨p, ps, rfl, rfl, by unfold resC; rw [e], hc⟩
theorem route_none {g : Gp} {p : Int} {ps : List Int} (h : routeOf cs gs g = none) (e : g.1 = p :: ps) : (rCro cs gs).contains p = false := by
  unfold routeOf at h
  rw [e] at h
  simp only at h
  split at h
  · cases h
  · rename_i hc; simpa using hc
/-- the assignment of a vector -/
theorem as_unb (ok : InsOk cs gs) (hv : IsVec cs gs xs) : Shp gs (asOf cs gs xs) ∧ unbB cs gs (asOf cs gs xs) = true ∧ vecOf cs gs (asOf cs gs xs) = xs := by
  have hl := hv.1
  have hz := zip_self_map (fun z : Gp × Int => rowV z.1 (resC cs gs z.1) z.2) gs xs hl.symm
  have hm := (meets_sums ok).mp hv.2.2
  have h0 : ∀ w ∈ gs.zip xs, routeOf cs gs w.1 = none → w.2 = 0 := fun w hw hn => by
    refine hm.1 (routeOf cs gs w.1, w.2) ?_ hn
    unfold zsOf
    rw [List.zip_map_left]
    exact List.mem_map.mpr ⟨w, hw, rfl⟩
  refine ⟨⟨by unfold asOf; rw [List.length_map, List.length_zip]; omega, fun z hz' => ?_⟩, ?_, ?_⟩
  · unfold asOf at hz'
    rw [hz] at hz'
    obtain ⟨w, _, rfl⟩ := List.mem_map.mp hz'
    exact rowV_len ..
  · unfold unbB asOf
    rw [hz, Bool.and_eq_true]
    constructor
    · unfold onlyB
      rw [List.all_map, List.all_eq_true]
      intro w hw
      rw [Function.comp, List.all_eq_true]
      intro k hk
      simp only
      by_cases e : k = 0 ∨ k = resC cs gs w.1
      · rw [decide_eq_true e]; rfl
      · rw [rowV_get (resC_le _)]
        rw [if_neg (fun z => e (.inl z)), if_neg (fun z => e (.inr z.symm))]
        rw [decide_eq_false e]; rfl
    · rw [decide_eq_true_iff, claims_iff]
      intro q hq
      have hin : ∀ z ∈ (gs.zip xs).map (fun z => (z.1, rowV z.1 (resC cs gs z.1) z.2)), ∀ p ∈ z.1.1, 0 ≤ p ∧ p < (cs.length : Int) := by
        intro z hz'
        obtain ⟨w, hw, rfl⟩ := List.mem_map.mp hz'
        exact heads_in ok w.1 (zip_in hw).1
      rw [served_at hin, met_at hq, List.map_map]
      have hp : (gs.zip xs).map ((fun z : Gp × List Int => headC q (z.1.1, z.2.getD 0 0)) ∘ fun z => (z.1, rowV z.1 (resC cs gs z.1) z.2)) = (gs.zip xs).map (fun w => headC q w.1 - movP q (routeOf cs gs w.1, w.2)) := by
        refine List.map_congr_left fun w hw => ?_
        simp only [Function.comp]
        rw [rowV_get (resC_le _), if_pos rfl]
        cases e : w.1.1 with
        | nil =>
          have : routeOf cs gs w.1 = none := by unfold routeOf; rw [e]
          unfold headC movP
          rw [e, this]; simp
        | cons p ps =>
          have h1 := resC_pos (cs := cs) (gs := gs) (g := w.1) (by rw [e]; simp)
          rw [if_neg (by omega)]
          unfold headC
          rw [e]
          simp only
          cases hr : routeOf cs gs w.1 with
          | none => rw [h0 w hw hr]; unfold movP; simp
          | some r =>
            obtain ⟨p', ps', e', e1, _⟩ := route_head hr
            rw [e] at e'
            cases e'
            unfold movP
            simp only
            rw [e1]
            split <;> omega
      rw [hp, sum_sub]
      have e1 : ((gs.zip xs).map (fun w => headC q w.1)).sum = (gs.map (headC q)).sum := by
        have := zip_fst (as := gs) (bs := xs) hl.symm
        conv => rhs; rw [← this, List.map_map]
        rfl
      have e2 := hm.2.1 q hq
      rw [zs_map] at e2
      rw [e1, e2]
      have e3 := sp_at ok q
      have e4 := mx_two (spOf cs gs q)
      omega
  · unfold vecOf asOf
    rw [hz, List.map_map]
    have := zip_snd (as := gs) (bs := xs) hl.symm
    conv => rhs; rw [← this]
    refine List.map_congr_left fun w hw => ?_
    simp only [Function.comp]
    unfold xOf
    simp only
    cases hr : routeOf cs gs w.1 with
    | none => exact (h0 w hw hr).symm
    | some r =>
      obtain ⟨p, ps, e, _⟩ := route_head hr
      have h1 := resC_pos (cs := cs) (gs := gs) (g := w.1) (by rw [e]; simp)
      simp only
      rw [rowV_get (resC_le _), if_neg (by omega), if_pos rfl]; omega
def loadC (q : Int) (z : Gp × List Int) : Int := ((z.1.1.zip z.2).map (fun w => if w.1 = q then w.2 else 0)).sum
structure AsgOk (cs : List Int) (gs : List Gp) (rows : List (List Int)) : Prop where
  shp : Shp gs rows
  nn : ∀ z ∈ gs.zip rows, ∀ x ∈ z.2, 0 ≤ x
  sum : ∀ z ∈ gs.zip rows, z.2.sum = z.1.2
  load : ∀ q : Nat, q < cs.length → ((gs.zip rows).map (loadC q)).sum ≤ cs.getD q 0
theorem sum_one : ∀ {l : List Int} {i : Nat}, i < l.length → (∀ k, k ≠ i → l.getD k 0 = 0) → l.sum = l.getD i 0
  | [], i, h, _ => by simp at h
  | a :: l, 0, _, h => by
    have : l.sum = 0 := by
      have hz : ∀ y ∈ l, y = 0 := fun y hy => by
        obtain ⟨k, hk⟩ := List.getElem?_of_mem hy
        have := h (k + 1) (by omega)
        rw [List.getD_eq_getElem?_getD, List.getElem?_cons_succ, hk] at this
        exact this
      have := sum_zero (f := id) (l := l) hz
      simpa using this
    rw [List.sum_cons, this]; simp
  | a :: l, i + 1, hi, h => by
    have h0 := h 0 (by omega)
    have ih := sum_one (l := l) (i := i) (by simpa using hi) (fun k hk => by
      have := h (k + 1) (by omega)
      simpa [List.getD_eq_getElem?_getD] using this)
    rw [List.sum_cons, ih]
    have : a = 0 := by simpa [List.getD_eq_getElem?_getD] using h0
    rw [this]; simp [List.getD_eq_getElem?_getD]
theorem getD_nn {l : List Int} (h : ∀ x ∈ l, 0 ≤ x) (k : Nat) : 0 ≤ l.getD k 0 := by
  rw [List.getD_eq_getElem?_getD]
  cases e : l[k]? with
  | none => exact Int.le_refl _
  | some x => exact h x (List.mem_of_getElem? e)
theorem ext_getD {l m : List Int} (hl : l.length = m.length) (h : ∀ k, l.getD k 0 = m.getD k 0) : l = m := by
  refine List.ext_getElem hl fun k k1 k2 => ?_
  have := h k
  rwa [List.getD_eq_getElem?_getD, List.getD_eq_getElem?_getD, List.getElem?_eq_getElem k1, List.getElem?_eq_getElem k2] at this
/-- the vector of an assignment -/
theorem unb_vec (ok : InsOk cs gs) (A : AsgOk cs gs rows) (hu : unbB cs gs rows = true) : IsVec cs gs (vecOf cs gs rows) ∧ asOf cs gs (vecOf cs gs rows) = rows := by
  obtain ⟨hl, hs⟩ := A.shp
  have hz := zip_self_map (xOf cs gs) gs rows hl.symm
  unfold unbB at hu
  rw [Bool.and_eq_true, decide_eq_true_iff, claims_iff] at hu
  obtain ⟨ho, hc⟩ := hu
  have hin : ∀ z ∈ gs.zip rows, ∀ p ∈ z.1.1, 0 ≤ p ∧ p < (cs.length : Int) := fun z hz' => heads_in ok z.1 (zip_in hz').1
  have other : ∀ z ∈ gs.zip rows, ∀ k, k ≠ 0 → k ≠ resC cs gs z.1 → z.2.getD k 0 = 0 := by
    intro z hz' k k0 kr
    by_cases hk : k < z.2.length
    · unfold onlyB at ho
      have := List.all_eq_true.mp (List.all_eq_true.mp ho z hz') k (List.mem_range.mpr hk)
      rw [decide_eq_false (by omega)] at this
      have h1 : ¬ 0 < z.2.getD k 0 := by simpa using this
      have h2 := getD_nn (A.nn z hz') k
      omega
    · rw [List.getD_eq_getElem?_getD, List.getElem?_eq_none (by omega)]; rfl
  have two : ∀ z ∈ gs.zip rows, z.1.1 ≠ [] → z.2.getD 0 0 + z.2.getD (resC cs gs z.1) 0 = z.1.2 := by
    intro z hz' hne
    have h1 := resC_pos (cs := cs) (gs := gs) (g := z.1) hne
    have h2 := resC_le (cs := cs) (gs := gs) z.1
    have h3 := hs z hz'
    have h4 := A.sum z hz'
    match hrow : z.2, h3 with
    | a :: t, h3 =>
      rw [hrow] at h4
      have := sum_one (l := t) (i := resC cs gs z.1 - 1) (by simp at h3; omega) (fun k hk => by
        have := other z hz' (k + 1) (by omega) (by omega)
        rw [hrow] at this
        simpa [List.getD_eq_getElem?_getD] using this)
      rw [List.sum_cons, this] at h4
      rw [← h4]
      obtain ⟨m, hm⟩ : ∃ m, resC cs gs z.1 = m + 1 := ⟨resC cs gs z.1 - 1, by omega⟩
      rw [hm]
      simp [List.getD_eq_getElem?_getD]
  have gap : ∀ (q : Nat), ∀ z ∈ gs.zip rows, 0 ≤ headC q z.1 - headC q (z.1.1, z.2.getD 0 0) := by
    intro q z hz'
    unfold headC
    cases e : z.1.1 with
    | nil => simp
    | cons p ps =>
      have h1 := two z hz' (by rw [e]; simp)
      have h2 := getD_nn (A.nn z hz') (resC cs gs z.1)
      simp only
      split <;> omega
  have e1 : ∀ q : Nat, ((gs.zip rows).map (fun w => headC q w.1)).sum = (gs.map (headC q)).sum := fun q => by
    have := zip_fst (as := gs) (bs := rows) hl.symm
    conv => rhs; rw [← this, List.map_map]
    rfl
  have srv : ∀ q : Nat, q < cs.length → ((gs.zip rows).map (fun z => headC q (z.1.1, z.2.getD 0 0))).sum = cs.getD q 0 - mx (spOf cs gs q) := fun q hq => by
    rw [← served_at hin, hc q hq, met_at hq]
  have full : ∀ z ∈ gs.zip rows, routeOf cs gs z.1 = none → z.1.1 ≠ [] → z.2.getD 0 0 = z.1.2 := by
    intro z hz' hr hne
    cases e : z.1.1 with
    | nil => exact absurd e hne
    | cons p ps =>
      have hp := hin z hz' p (by rw [e]; exact List.mem_cons_self)
      have hnc := route_none hr e
      obtain ⟨q, rfl⟩ : ∃ q : Nat, p = (q : Int) := ⟨p.toNat, by omega⟩
      have hq : q < cs.length := by omega
      have hsp : ¬ spOf cs gs q < 0 := fun h => by
        have := cro_mem.mpr ⟨hp, h⟩
        have h2 : (rCro cs gs).contains (q : Int) = true := by simpa using this
        rw [h2] at hnc; cases hnc
      have hsum : ((gs.zip rows).map (fun w => headC q w.1 - headC q (w.1.1, w.2.getD 0 0))).sum = 0 := by
        rw [sum_sub, e1, srv q hq]
        have := sp_at ok q
        unfold mx
        split <;> omega
      have h1 := sum_ge (l := (gs.zip rows).map (fun w => headC q w.1 - headC q (w.1.1, w.2.getD 0 0))) (fun x hx => by
        obtain ⟨w, hw, rfl⟩ := List.mem_map.mp hx; exact gap q w hw) (List.mem_map.mpr ⟨z, hz', rfl⟩)
      have h2 := gap q z hz'
      rw [hsum] at h1
      have h3 : headC q z.1 - headC q (z.1.1, z.2.getD 0 0) = 0 := by omega
      unfold headC at h3
      rw [e] at h3
      simp only [if_pos] at h3
      omega
  have rowEq : ∀ z ∈ gs.zip rows, z.2 = rowV z.1 (resC cs gs z.1) (xOf cs gs z) := by
    intro z hz'
    refine ext_getD (by rw [rowV_len]; exact hs z hz') fun k => ?_
    rw [rowV_get (resC_le _)]
    cases e : z.1.1 with
    | nil =>
      have hr : routeOf cs gs z.1 = none := by unfold routeOf; rw [e]
      have hx : xOf cs gs z = 0 := by unfold xOf; rw [hr]
      have h3 := hs z hz'
      have h4 := A.sum z hz'
      rw [e] at h3
      rw [hx]
      match hrow : z.2, h3 with
      | [a], _ =>
        rw [hrow] at h4
        cases k with
        | zero => simp [List.getD_eq_getElem?_getD]; simpa using h4
        | succ k => simp [List.getD_eq_getElem?_getD]
    | cons p ps =>
      have hne : z.1.1 ≠ [] := by rw [e]; simp
      have h1 := resC_pos (cs := cs) (gs := gs) (g := z.1) hne
      have h2 := two z hz' hne
      have hxr : xOf cs gs z = z.2.getD (resC cs gs z.1) 0 := by
        unfold xOf
        cases hr : routeOf cs gs z.1 with
        | some r => rfl
        | none =>
          have := full z hz' hr hne
          simp only; omega
      by_cases k0 : k = 0
      · subst k0
        rw [if_pos rfl, if_neg (by omega), hxr]; omega
      · rw [if_neg k0]
        by_cases kr : resC cs gs z.1 = k
        · rw [if_pos kr, hxr, kr]; omega
        · rw [if_neg kr, other z hz' k k0 (fun h => kr h.symm)]; rfl
  have row0 : ∀ z ∈ gs.zip rows, z.1.1 ≠ [] → z.2.getD 0 0 = z.1.2 - xOf cs gs z := by
    intro z hz' hne
    have h1 := resC_pos (cs := cs) (gs := gs) (g := z.1) hne
    have := congrArg (fun l : List Int => l.getD 0 0) (rowEq z hz')
    have this : z.2.getD 0 0 = (rowV z.1 (resC cs gs z.1) (xOf cs gs z)).getD 0 0 := this
    rw [rowV_get (resC_le _), if_pos rfl, if_neg (by omega)] at this
    omega
  have xb : ∀ z ∈ gs.zip rows, 0 ≤ xOf cs gs z ∧ xOf cs gs z ≤ z.1.2 := by
    intro z hz'
    have hg := (ok.gp z.1 (zip_in hz').1).2.2.1
    unfold xOf
    cases hr : routeOf cs gs z.1 with
    | none => exact ⟨Int.le_refl _, by simp only; omega⟩
    | some r =>
      obtain ⟨p, ps, e, _⟩ := route_head hr
      have h1 := two z hz' (by rw [e]; simp)
      have h2 := getD_nn (A.nn z hz') (resC cs gs z.1)
      have h3 := getD_nn (A.nn z hz') 0
      simp only
      omega
  have hzx : gs.zip (vecOf cs gs rows) = (gs.zip rows).map (fun z => (z.1, xOf cs gs z)) := hz
  have hvl : (vecOf cs gs rows).length = gs.length := by unfold vecOf; rw [List.length_map, List.length_zip]; omega
  refine ⟨⟨hvl, fun j g x hg hx => ?_, (meets_sums ok).mpr ⟨fun z hz' hn => ?_, fun q hq => ?_, fun q hq => ?_⟩⟩, ?_⟩
  · unfold vecOf at hx
    rw [List.getElem?_map] at hx
    obtain ⟨z, hzj, rfl⟩ := Option.map_eq_some_iff.mp hx
    have h1 := (List.getElem?_zip_eq_some.mp hzj).1
    rw [hg] at h1
    cases h1
    exact xb z (List.mem_of_getElem? hzj)
  · have : z ∈ (gs.zip (vecOf cs gs rows)).map (fun w => (routeOf cs gs w.1, w.2)) := by
      unfold zsOf at hz'
      rw [List.zip_map_left] at hz'
      exact hz'
    rw [hzx, List.map_map] at this
    obtain ⟨w, hw, rfl⟩ := List.mem_map.mp this
    have hn : routeOf cs gs w.1 = none := hn
    show xOf cs gs w = 0
    unfold xOf
    rw [hn]
  · rw [zs_map, hzx, List.map_map]
    have hp : (gs.zip rows).map ((fun z : Gp × Int => movP q (routeOf cs gs z.1, z.2)) ∘ fun z => (z.1, xOf cs gs z)) = (gs.zip rows).map (fun z => headC q z.1 - headC q (z.1.1, z.2.getD 0 0)) := by
      refine List.map_congr_left fun z hz' => ?_
      simp only [Function.comp]
      unfold movP headC
      cases e : z.1.1 with
      | nil =>
        have hr : routeOf cs gs z.1 = none := by unfold routeOf; rw [e]
        rw [hr]; simp
      | cons p ps =>
        have hne : z.1.1 ≠ [] := by rw [e]; simp
        have h1 := row0 z hz' hne
        simp only
        cases hr : routeOf cs gs z.1 with
        | none =>
          have hx : xOf cs gs z = 0 := by unfold xOf; rw [hr]
          simp only
          split <;> omega
        | some r =>
          obtain ⟨p', ps', e', e2, _⟩ := route_head hr
          rw [e] at e'
          cases e'
          simp only
          rw [e2]
          split <;> omega
    rw [hp, sum_sub, e1, srv q hq]
    have h1 := sp_at ok q
    have h2 := mx_two (spOf cs gs q)
    omega
  · rw [zs_map, hzx, List.map_map]
    by_cases hsp : 0 < spOf cs gs q
    · have hle : ∀ z ∈ gs.zip rows, headC q (z.1.1, z.2.getD 0 0) + takP q (routeOf cs gs z.1, xOf cs gs z) ≤ loadC q z := by
        intro z hz'
        unfold headC takP loadC
        cases e : z.1.1 with
        | nil =>
          have hr : routeOf cs gs z.1 = none := by unfold routeOf; rw [e]
          rw [hr]; simp
        | cons p ps =>
          have h3 := hs z hz'
          rw [e] at h3
          match hrow : z.2, h3 with
          | a :: t, h3 =>
            simp only [List.zip_cons_cons, List.map_cons, List.sum_cons]
            have tnn : ∀ y ∈ (ps.zip t).map (fun w : Int × Int => if w.1 = (q : Int) then w.2 else 0), 0 ≤ y := by
              intro y hy
              obtain ⟨w, hw, rfl⟩ := List.mem_map.mp hy
              have := A.nn z hz' w.2 (by rw [hrow]; exact List.mem_cons_of_mem _ (zip_in hw).2)
              split <;> omega
            have t0 := sum_nn tnn
            have ha : (a :: t).getD 0 0 = a := by simp [List.getD_eq_getElem?_getD]
            rw [ha]
            cases hr : routeOf cs gs z.1 with
            | none => simp only; omega
            | some r =>
              obtain ⟨p', ps', e', e2, e3, _⟩ := route_head hr
              rw [e] at e'
              cases e'
              simp only
              by_cases hy : r.2 = some (q : Int)
              · rw [if_pos hy]
                rw [hy] at e3
                have h1 := resC_pos (cs := cs) (gs := gs) (g := z.1) (by rw [e]; simp)
                obtain ⟨m, hm⟩ : ∃ m, resC cs gs z.1 = m + 1 := ⟨resC cs gs z.1 - 1, by omega⟩
                have hxm : xOf cs gs z = t.getD m 0 := by
                  unfold xOf
                  rw [hr]
                  simp only
                  rw [hrow, hm]
                  simp [List.getD_eq_getElem?_getD]
                rw [e, hm, List.getElem?_cons_succ] at e3
                have hml := (List.getElem?_eq_some_iff.mp e3.symm).1
                have hmt : m < t.length := by simp at h3; omega
                have hmem : ((q : Int), t[m]) ∈ ps.zip t := by
                  refine List.mem_of_getElem? (i := m) ?_
                  rw [List.getElem?_zip_eq_some]
                  exact ⟨e3.symm, List.getElem?_eq_getElem hmt⟩
                have := sum_ge tnn (List.mem_map.mpr ⟨_, hmem, rfl⟩)
                simp only [if_true] at this
                rw [hxm, List.getD_eq_getElem?_getD, List.getElem?_eq_getElem hmt]
                simp only [Option.getD_some]
                omega
              · rw [if_neg hy]; omega
      have h1 := A.load q hq
      have h2 : ((gs.zip rows).map (fun z => headC q (z.1.1, z.2.getD 0 0) + takP q (routeOf cs gs z.1, xOf cs gs z))).sum ≤ ((gs.zip rows).map (loadC q)).sum := by
        generalize gs.zip rows = l at hle
        induction l with
        | nil => simp
        | cons z l ih =>
          have a1 := hle z List.mem_cons_self
          have a2 := ih (fun w hw => hle w (List.mem_cons_of_mem _ hw))
          simp only [List.map_cons, List.sum_cons]
          omega
      rw [sum_add, srv q hq] at h2
      show ((gs.zip rows).map (fun z => takP q (routeOf cs gs z.1, xOf cs gs z))).sum ≤ _
      omega
    · have : ((gs.zip rows).map ((fun z : Gp × Int => takP q (routeOf cs gs z.1, z.2)) ∘ fun z => (z.1, xOf cs gs z))).sum = 0 := sum_zero fun z hz' => by
        simp only [Function.comp]
        unfold takP
        cases hr : routeOf cs gs z.1 with
        | none => rfl
        | some r =>
          simp only
          exact if_neg fun h => hsp ((route_wf ok (zip_in hz').1 hr).2 q h).1
      rw [this]
      unfold mx
      split <;> omega
  · unfold asOf
    rw [hzx, List.map_map]
    have := zip_snd (as := gs) (bs := rows) hl.symm
    conv => rhs; rw [← this]
    refine List.map_congr_left fun z hz' => ?_
    exact (rowEq z hz').symm
end
end Pv

namespace Pv
open PySem PySem.Spec PyProof.Rows L2
/-! weights: the greedy vector, the bound of prices -/
section
variable {cs : List Int} {gs : List Gp} {xs : List Int}
def S1 (cs : List Int) (gs : List Gp) (xs : List Int) (q : Int) : Int := ((zsOf cs gs xs).map (movP q)).sum
def S2 (cs : List Int) (gs : List Gp) (xs : List Int) (q : Int) : Int := ((zsOf cs gs xs).map (takP q)).sum
theorem zs_len (hl : xs.length = gs.length) : (zsOf cs gs xs).length = gs.length := by
  unfold zsOf; rw [List.length_zip, List.length_map]; omega
theorem zs_get (hl : xs.length = gs.length) {j : Nat} {g : Gp} (hg : gs[j]? = some g) : (zsOf cs gs xs)[j]? = some (routeOf cs gs g, xs.getD j 0) := by
  have hj := (List.getElem?_eq_some_iff.mp hg).1
  have := zs_at (cs := cs) hl hj
  rw [this, (List.getElem?_eq_some_iff.mp hg).2, List.getD_eq_getElem?_getD, List.getElem?_eq_getElem (by omega)]
  rfl
theorem set_get {l : List Int} {j : Nat} (h : j < l.length) (x : Int) (k : Nat) : (l.set j x).getD k 0 = if k = j then x else l.getD k 0 := by
  rw [List.getD_eq_getElem?_getD, List.getD_eq_getElem?_getD, List.getElem?_set]
  by_cases e : j = k
  · subst e; rw [if_pos rfl, if_pos h, if_pos rfl]; rfl
  · rw [if_neg e, if_neg (fun z => e z.symm)]
theorem zs_set (hl : xs.length = gs.length) {j : Nat} {g : Gp} (hg : gs[j]? = some g) (b : Int) : zsOf cs gs (xs.set j b) = (zsOf cs gs xs).set j (routeOf cs gs g, b) := by
  have hj := (List.getElem?_eq_some_iff.mp hg).1
  have hl2 : (xs.set j b).length = gs.length := by rw [List.length_set]; exact hl
  apply List.ext_getElem?
  intro n
  rw [List.getElem?_set, zs_len hl]
  by_cases hn : n < gs.length
  · have hgn : gs[n]? = some gs[n] := List.getElem?_eq_getElem hn
    rw [zs_get hl2 hgn, zs_get hl hgn, set_get (by omega)]
    by_cases e : j = n
    · subst e; rw [hg] at hgn; rw [if_pos rfl, if_pos rfl, if_pos hj, ← Option.some.inj hgn]
    · rw [if_neg e, if_neg (fun z => e z.symm)]
  · rw [List.getElem?_eq_none (by rw [zs_len hl2]; omega), List.getElem?_eq_none (by rw [zs_len hl]; omega), if_neg (by omega)]
theorem S1_set (hl : xs.length = gs.length) {j : Nat} {g : Gp} (hg : gs[j]? = some g) (b q : Int) : S1 cs gs (xs.set j b) q = S1 cs gs xs q - movP q (routeOf cs gs g, xs.getD j 0) + movP q (routeOf cs gs g, b) := by
  unfold S1
  rw [zs_set hl hg, sum_set _ _ _ _ _ (zs_get hl hg)]
theorem zeros_get (n k : Nat) : (zeros n).getD k 0 = 0 := by
  unfold zeros
  rw [List.getD_eq_getElem?_getD, List.getElem?_replicate]
  split <;> rfl
theorem zs_elim {z : Rt × Int} (hl : xs.length = gs.length) (h : z ∈ zsOf cs gs xs) : ∃ (j : Nat) (g : Gp), gs[j]? = some g ∧ z = (routeOf cs gs g, xs.getD j 0) := by
  obtain ⟨j, hj, e⟩ := List.mem_iff_getElem.mp h
  have hjg : j < gs.length := by rw [zs_len hl] at hj; exact hj
  refine ⟨j, gs[j], List.getElem?_eq_getElem hjg, ?_⟩
  have := zs_get (cs := cs) hl (List.getElem?_eq_getElem hjg)
  rw [List.getElem?_eq_getElem hj, e] at this
  exact Option.some.inj this
theorem zs_map2 (hl : xs.length = gs.length) (f : Rt × Int → Int) : (zsOf cs gs xs).map f = (List.range gs.length).map fun j => f (routeOf cs gs (gs.getD j ([], 0)), xs.getD j 0) := by
  apply List.ext_getElem
  · rw [List.length_map, List.length_map, List.length_range, zs_len hl]
  · intro n h1 h2
    rw [List.length_map, zs_len hl] at h1
    rw [List.getElem_map, List.getElem_map, List.getElem_range]
    have := zs_get (cs := cs) hl (List.getElem?_eq_getElem h1)
    rw [List.getElem?_eq_getElem (by rw [zs_len hl]; exact h1)] at this
    rw [Option.some.inj this, show gs.getD n ([], 0) = gs[n] by rw [List.getD_eq_getElem?_getD, List.getElem?_eq_getElem h1]; rfl]
theorem range_cong {n : Nat} {f g : Nat → Int} (h : ∀ j, j < n → f j = g j) : (List.range n).map f = (List.range n).map g :=
  List.map_congr_left fun j hj => h j (List.mem_range.mp hj)
theorem sum_mono {α : Type} {f g : α → Int} : ∀ {l : List α}, (∀ x ∈ l, f x ≤ g x) → (l.map f).sum ≤ (l.map g).sum
  | [], _ => by simp
  | x :: l, h => by
    have ih := sum_mono (l := l) fun y hy => h y (List.mem_cons_of_mem _ hy)
    have hx := h x List.mem_cons_self
    simp only [List.map_cons, List.sum_cons]; omega

/-! the greedy vector -/
structure Fi (cs : List Int) (gs : List Gp) (B C : List Int) : Prop where
  lB : B.length = gs.length
  lC : C.length = cs.length
  bd : ∀ (j : Nat) (g : Gp), gs[j]? = some g → 0 ≤ B.getD j 0 ∧ B.getD j 0 ≤ g.2
  un : ∀ (j : Nat) (g : Gp), gs[j]? = some g → routeOf cs gs g = none → B.getD j 0 = 0
  sm : ∀ q : Nat, q < cs.length → 0 ≤ C.getD q 0 ∧ C.getD q 0 + S1 cs gs B q = mx (- spOf cs gs q)
theorem exc_getD {q : Nat} (h : q < cs.length) : (rExc cs gs).getD q 0 = mx (- spOf cs gs q) := by
  rw [List.getD_eq_getElem?_getD, List.getElem?_eq_getElem (by rw [rExc_len]; exact h)]
  exact (exc_get h).1
theorem fre_getD {q : Nat} (h : q < cs.length) : (rFre cs gs).getD q 0 = mx (spOf cs gs q) := by
  rw [List.getD_eq_getElem?_getD, List.getElem?_eq_getElem (by rw [rFre_len]; exact h)]
  exact (exc_get h).2
theorem mx_nn (x : Int) : 0 ≤ mx x := by unfold mx; split <;> omega
theorem Fi.start (ok : InsOk cs gs) : Fi cs gs (zeros gs.length) (rExc cs gs) := by
  have lz : (zeros gs.length).length = gs.length := by simp [zeros]
  refine ⟨lz, rExc_len .., fun j g hg => ?_, fun j g _ _ => zeros_get .., fun q hq => ?_⟩
  · rw [zeros_get]
    have := (ok.gp g (List.mem_of_getElem? hg)).2.2
    omega
  · have e : S1 cs gs (zeros gs.length) q = 0 := sum_zero fun z hz => by
      obtain ⟨j, g, hg, rfl⟩ := zs_elim lz hz
      unfold movP
      rw [zeros_get]
      split
      · split <;> rfl
      · rfl
    rw [e, exc_getD hq]
    exact ⟨mx_nn _, by omega⟩
theorem Fi.step {B C : List Int} (h : Fi cs gs B C) {j : Nat} {g : Gp} {f : Nat} {o : Option Int} (hg : gs[j]? = some g) (hr : routeOf cs gs g = some ((f : Int), o)) (hf : f < cs.length) {b : Int} (b0 : 0 ≤ b) (b1 : b ≤ g.2) (b2 : b - B.getD j 0 ≤ C.getD f 0) : Fi cs gs (B.set j b) (C.set f (C.getD f 0 - (b - B.getD j 0))) := by
  have hj := (List.getElem?_eq_some_iff.mp hg).1
  have hjB : j < B.length := by rw [h.lB]; exact hj
  have hfC : f < C.length := by rw [h.lC]; exact hf
  refine ⟨by rw [List.length_set]; exact h.lB, by rw [List.length_set]; exact h.lC, fun k g' hg' => ?_, fun k g' hg' hn => ?_, fun q hq => ?_⟩
  · rw [set_get hjB]
    split
    · rename_i e; subst e; rw [hg] at hg'; cases hg'; exact ⟨b0, b1⟩
    · exact h.bd k g' hg'
  · rw [set_get hjB]
    split
    · rename_i e; subst e; rw [hg] at hg'; cases hg'; rw [hr] at hn; cases hn
    · exact h.un k g' hg' hn
  · have hs := h.sm q hq
    rw [set_get hfC, S1_set h.lB hg, hr]
    unfold movP
    by_cases e : q = f
    · subst e
      rw [if_pos rfl]
      simp only [if_true]
      omega
    · rw [if_neg e]
      have e2 : ¬ ((f : Int) = (q : Int)) := by omega
      simp only [if_neg e2]
      omega
theorem Fi.full (ok : InsOk cs gs) {B C : List Int} (h : Fi cs gs B C) (hf : ∀ (j : Nat) (g : Gp) (f : Nat) (o : Option Int), gs[j]? = some g → routeOf cs gs g = some ((f : Int), o) → C.getD f 0 = 0 ∨ B.getD j 0 = g.2) : ∀ q : Nat, q < cs.length → S1 cs gs B q = mx (- spOf cs gs q) := by
  intro q hq
  have hs := h.sm q hq
  by_cases hc : C.getD q 0 = 0
  · omega
  exfalso
  by_cases h0 : 0 ≤ spOf cs gs (q : Int)
  · have e1 : S1 cs gs B q = 0 := mov_zero ok h0
    have e2 : mx (- spOf cs gs (q : Int)) = 0 := by unfold mx; rw [if_neg (by omega)]
    omega
  have hd : S1 cs gs B q = (gs.map (headC q)).sum := by
    unfold S1
    rw [zs_map2 h.lB]
    have : gs.map (headC q) = (List.range gs.length).map fun j => headC q (gs.getD j ([], 0)) := by
      apply List.ext_getElem
      · simp
      · intro n h1 h2
        rw [List.length_map] at h1
        rw [List.getElem_map, List.getElem_map, List.getElem_range, List.getD_eq_getElem?_getD, List.getElem?_eq_getElem h1]
        rfl
    rw [this, range_cong]
    intro j hj
    have hg : gs[j]? = some (gs.getD j ([], 0)) := by rw [List.getD_eq_getElem?_getD, List.getElem?_eq_getElem hj]; rfl
    generalize gs.getD j ([], 0) = g at hg
    unfold headC movP
    cases e : g.1 with
    | nil =>
      have hn : routeOf cs gs g = none := by unfold routeOf; rw [e]
      rw [hn]
    | cons p ps =>
      have hp := (ok.gp g (List.mem_of_getElem? hg)).2.1 p (by rw [e]; exact List.mem_cons_self)
      dsimp only
      by_cases e2 : p = (q : Int)
      · have hcr : (rCro cs gs).contains p = true := by
          rw [List.contains_iff_mem, cro_mem]; exact ⟨hp, by rw [e2]; omega⟩
        have hr : routeOf cs gs g = some ((q : Int), g.1[resOf g.1 (rCla cs gs)]?) := by
          unfold routeOf; rw [e]; simp only; rw [if_pos hcr, e2]
        rw [hr]
        simp only [if_true, e2]
        rcases hf j g q _ hg hr with z | z
        · exact absurd z hc
        · exact z
      · rw [if_neg e2]
        cases hr : routeOf cs gs g with
        | none => rfl
        | some r =>
          obtain ⟨p', ps', e3, e4, _⟩ := route_head hr
          rw [e] at e3
          cases e3
          show (if r.1 = (q : Int) then _ else _) = _
          rw [if_neg (by rw [e4]; exact e2)]
  have hsp := sp_at ok q
  have hcq : 1 ≤ cs.getD q 0 := by
    rw [List.getD_eq_getElem?_getD, List.getElem?_eq_getElem hq]
    exact (ok.cb _ (List.getElem_mem hq)).1
  have e2 : mx (- spOf cs gs (q : Int)) = - spOf cs gs (q : Int) := by unfold mx; rw [if_pos (by omega)]
  omega

/-! rows -/
theorem rows_lt : ∀ n, ((rowsTo cs gs n).map (fun r => r.1)).Pairwise (· < ·) ∧ ∀ r ∈ rowsTo cs gs n, r.1 < n := by
  intro n
  refine ⟨?_, fun r hr => ?_⟩
  · induction n with
    | zero => exact List.Pairwise.nil
    | succ n ih =>
      have key : rowsTo cs gs (n + 1) = rowsTo cs gs n ++ (gs[n]?.bind (rowAt cs gs n)).toList := by
        unfold rowsTo
        rw [List.range_succ, List.filterMap_append, List.filterMap_cons, List.filterMap_nil]
        cases gs[n]?.bind (rowAt cs gs n) <;> rfl
      rw [key, List.map_append, List.pairwise_append]
      refine ⟨ih, ?_, fun a ha b hb => ?_⟩
      · cases gs[n]?.bind (rowAt cs gs n) with
        | none => exact List.Pairwise.nil
        | some r => exact List.pairwise_singleton ..
      · obtain ⟨r, hr, rfl⟩ := List.mem_map.mp ha
        obtain ⟨r', hr', rfl⟩ := List.mem_map.mp hb
        have h1 : r.1 < n := by obtain ⟨_, _, _, h⟩ := row_mem hr; exact h
        have h2 : r'.1 = n := by
          rw [Option.mem_toList] at hr'
          obtain ⟨g, _, e⟩ := Option.bind_eq_some_iff.mp hr'
          unfold rowAt at e
          obtain ⟨q, _, e⟩ := Option.map_eq_some_iff.mp e
          rw [← e]
        omega
  · obtain ⟨_, _, _, h⟩ := row_mem hr; exact h
theorem rows_inj {n k i : Nat} {r r' : Rw} (hk : (rowsTo cs gs n)[k]? = some r) (hi : (rowsTo cs gs n)[i]? = some r') (e : r.1 = r'.1) : k = i := by
  have P := (rows_lt (cs := cs) (gs := gs) n).1
  obtain ⟨k1, ek⟩ := List.getElem?_eq_some_iff.mp hk
  obtain ⟨i1, ei⟩ := List.getElem?_eq_some_iff.mp hi
  have := List.pairwise_iff_getElem.mp P
  rcases Nat.lt_trichotomy k i with h | h | h
  · have := this k i (by simpa using k1) (by simpa using i1) h
    rw [List.getElem_map, List.getElem_map, ek, ei] at this; omega
  · exact h
  · have := this i k (by simpa using i1) (by simpa using k1) h
    rw [List.getElem_map, List.getElem_map, ek, ei] at this; omega
theorem rows_full {j : Nat} {g : Gp} {r : Int × Option Int} (hg : gs[j]? = some g) (hr : routeOf cs gs g = some r) : (j, r.1, r.2, g.2) ∈ rowsTo cs gs gs.length := by
  unfold rowsTo
  rw [List.mem_filterMap]
  refine ⟨j, List.mem_range.mpr (List.getElem?_eq_some_iff.mp hg).1, ?_⟩
  rw [hg]
  show rowAt cs gs j g = _
  unfold rowAt
  rw [hr]; rfl
theorem rows_sum (hl : xs.length = gs.length) (φ : Int × Option Int → Bool) : ((rowsTo cs gs gs.length).filterMap (fun r => if φ (r.2.1, r.2.2.1) = true then some (xs.getD r.1 0) else none)).sum = ((zsOf cs gs xs).map (fun z => match z.1 with | some r => if φ r = true then z.2 else 0 | none => 0)).sum := by
  rw [zs_map2 hl]
  have key : ∀ n, n ≤ gs.length → ((rowsTo cs gs n).filterMap (fun r => if φ (r.2.1, r.2.2.1) = true then some (xs.getD r.1 0) else none)).sum = ((List.range n).map (fun j => (fun z : Rt × Int => match z.1 with | some r => if φ r = true then z.2 else 0 | none => 0) (routeOf cs gs (gs.getD j ([], 0)), xs.getD j 0))).sum := by
    intro n
    induction n with
    | zero => intro _; rfl
    | succ n ih =>
      intro h
      have hg : gs[n]? = some (gs.getD n ([], 0)) := by rw [List.getD_eq_getElem?_getD, List.getElem?_eq_getElem (show n < gs.length by omega)]; rfl
      rw [rowsTo_succ hg, List.filterMap_append, List.sum_append, ih (by omega), List.range_succ, List.map_append, List.sum_append]
      congr 1
      simp only [List.map_cons, List.map_nil, List.sum_cons, List.sum_nil, Int.add_zero]
      generalize gs.getD n ([], 0) = g
      unfold rowAt
      cases hr : routeOf cs gs g with
      | none => rfl
      | some r =>
        by_cases e : φ r = true
        · simp [e]
        · simp [e]
  exact key _ (Nat.le_refl _)
theorem rows_S1 (hl : xs.length = gs.length) (q : Int) : ((rowsTo cs gs gs.length).filterMap (fun r => if r.2.1 = q then some (xs.getD r.1 0) else none)).sum = S1 cs gs xs q := by
  have := rows_sum (cs := cs) hl (fun r => decide (r.1 = q))
  simp only [decide_eq_true_eq] at this
  rw [this]; rfl
theorem rows_S2 (hl : xs.length = gs.length) (q : Int) : ((rowsTo cs gs gs.length).filterMap (fun r => if r.2.2.1 = some q then some (xs.getD r.1 0) else none)).sum = S2 cs gs xs q := by
  have := rows_sum (cs := cs) hl (fun r => decide (r.2 = some q))
  simp only [decide_eq_true_eq] at this
  rw [this]; rfl

/-! more room -/
structure Ai (cs : List Int) (gs : List Gp) (B A : List Int) : Prop where
  lA : A.length = cs.length
  ge : ∀ q : Nat, q < cs.length → cs.getD q 0 ≤ A.getD q 0 ∧ A.getD q 0 ≤ 10 ^ 12
  fr : ∀ q : Nat, q < cs.length → A.getD q 0 = cs.getD q 0 ∨ 0 < spOf cs gs q
def Met (cs : List Int) (gs : List Gp) (B A : List Int) (q : Nat) : Prop := (rDem cs gs).getD q 0 + S2 cs gs B q ≤ A.getD q 0
theorem dem_getD (ok : InsOk cs gs) (q : Nat) : (rDem cs gs).getD q 0 = (gs.map (headC q)).sum := dem_get (heads_in ok) q
theorem room_ok (ok : InsOk cs gs) {B C : List Int} (h : Fi cs gs B C) (small : ∀ g ∈ gs, g.2 ≤ 10 ^ 11) {q : Nat} (hq : 0 < spOf cs gs q) : (rDem cs gs).getD q 0 + S2 cs gs B q ≤ 10 ^ 12 := by
  rw [dem_getD ok]
  unfold S2
  rw [zs_map2 h.lB]
  have e1 : gs.map (headC q) = (List.range gs.length).map fun j => headC q (gs.getD j ([], 0)) := by
    apply List.ext_getElem
    · simp
    · intro n h1 h2
      rw [List.length_map] at h1
      rw [List.getElem_map, List.getElem_map, List.getElem_range, List.getD_eq_getElem?_getD, List.getElem?_eq_getElem h1]
      rfl
  rw [e1, ← sum_add]
  have e2 := sum_mono (l := List.range gs.length) (f := fun j => headC q (gs.getD j ([], 0)) + takP q (routeOf cs gs (gs.getD j ([], 0)), B.getD j 0)) (g := fun _ => 10 ^ 11) (fun j hj => by
    have hj := List.mem_range.mp hj
    have hg : gs[j]? = some (gs.getD j ([], 0)) := by rw [List.getD_eq_getElem?_getD, List.getElem?_eq_getElem hj]; rfl
    generalize gs.getD j ([], 0) = g at hg ⊢
    have hm := List.mem_of_getElem? hg
    have hb := h.bd j g hg
    have hs := small g hm
    unfold takP headC
    cases hr : routeOf cs gs g with
    | none =>
      cases e : g.1 with
      | nil => simp
      | cons p ps => simp only; split <;> omega
    | some r =>
      obtain ⟨p, ps, e, e3, _⟩ := route_head hr
      have hw := (route_wf ok hm hr).1
      rw [cro_mem] at hw
      rw [e]
      simp only
      by_cases e4 : p = (q : Int)
      · exfalso; rw [e3, e4] at hw; omega
      · rw [if_neg e4]
        split <;> omega)
  have e3 : ((List.range gs.length).map (fun _ : Nat => (10 : Int) ^ 11)).sum = gs.length * 10 ^ 11 := by
    generalize gs.length = n
    induction n with
    | zero => rfl
    | succ n ih => rw [List.range_succ, List.map_append, List.sum_append, ih]; simp; omega
  rw [e3] at e2
  have := ok.g10
  omega
theorem Ai.start (ok : InsOk cs gs) (B : List Int) : Ai cs gs B cs := ⟨rfl, fun q hq => ⟨Int.le_refl _, by
  rw [List.getD_eq_getElem?_getD, List.getElem?_eq_getElem hq]
  exact (ok.cb _ (List.getElem_mem hq)).2⟩, fun _ _ => .inl rfl⟩
theorem Ai.grow {B A : List Int} (h : Ai cs gs B A) {q : Nat} (hq : q < cs.length) (hs : 0 < spOf cs gs q) {x : Int} (hx : A.getD q 0 ≤ x) (hx2 : x ≤ 10 ^ 12) : Ai cs gs B (A.set q x) ∧ ∀ p, Met cs gs B A p → Met cs gs B (A.set q x) p := by
  have hqA : q < A.length := by rw [h.lA]; exact hq
  refine ⟨⟨by rw [List.length_set]; exact h.lA, fun p hp => ?_, fun p hp => ?_⟩, fun p hp => ?_⟩
  · rw [set_get hqA]
    have := h.ge p hp
    split
    · rename_i e; subst e; omega
    · exact this
  · rw [set_get hqA]
    split
    · rename_i e; subst e; exact .inr hs
    · exact h.fr p hp
  · unfold Met at hp ⊢
    rw [set_get hqA]
    split
    · rename_i e; subst e; omega
    · exact hp
theorem sel_cong {f : Int → Bool} {l m : List Int} {n : Nat} (h : ∀ i, i < n → f (l.getD i 0) = f (m.getD i 0)) : sel f l n = sel f m n := by
  unfold sel
  congr 1
  exact List.filter_congr fun i hi => h i (List.mem_range.mp hi)
section
variable {A B C : List Int}
theorem Ai.sp (h : Ai cs gs B A) (q : Nat) : spOf A gs q = A.getD q 0 - (rDem cs gs).getD q 0 := by
  unfold spOf
  rw [show rDem A gs = rDem cs gs by unfold rDem; rw [h.lA]]
  rfl
theorem Ai.sp2 (h : Ai cs gs B A) {q : Nat} (hq : q < cs.length) : mx (- spOf A gs q) = mx (- spOf cs gs q) ∧ (0 < spOf A gs q ↔ 0 < spOf cs gs q) := by
  have e1 := h.sp q
  have e2 : spOf cs gs (q : Int) = cs.getD q 0 - (rDem cs gs).getD q 0 := rfl
  have g1 := h.ge q hq
  unfold mx
  rcases h.fr q hq with z | z
  · rw [e1, e2, z]; exact ⟨rfl, Iff.rfl⟩
  · exact ⟨by rw [if_neg (by omega), if_neg (by omega)], by omega⟩
theorem Ai.route (h : Ai cs gs B A) (g : Gp) : routeOf A gs g = routeOf cs gs g := by
  have e1 : rCro A gs = rCro cs gs := by
    unfold rCro
    rw [h.lA]
    refine sel_cong fun i hi => ?_
    rw [exc_getD (by rw [h.lA]; exact hi), exc_getD hi, (h.sp2 hi).1]
  have e2 : rCla A gs = rCla cs gs := by
    unfold rCla
    rw [h.lA]
    refine sel_cong fun i hi => ?_
    rw [fre_getD (by rw [h.lA]; exact hi), fre_getD hi]
    have := (h.sp2 hi).2
    unfold mx
    rw [decide_eq_decide]
    constructor <;> intro z <;> (split at z <;> split <;> omega)
  unfold routeOf
  rw [e1, e2]
theorem Ai.ok (h : Ai cs gs B A) (ok : InsOk cs gs) : InsOk A gs := by
  refine ⟨by rw [h.lA]; exact ok.c1, by rw [h.lA]; exact ok.c6, fun c hc => ?_, ok.g1, ok.g10, fun g hg => by rw [h.lA]; exact ok.gp g hg⟩
  obtain ⟨q, hq, e⟩ := List.mem_iff_getElem.mp hc
  have hq2 : q < cs.length := by rw [← h.lA]; exact hq
  have g1 := h.ge q hq2
  rw [List.getD_eq_getElem?_getD, List.getD_eq_getElem?_getD, List.getElem?_eq_getElem hq, List.getElem?_eq_getElem hq2, e] at g1
  have := ok.cb _ (List.getElem_mem hq2)
  simp only [Option.getD_some] at g1
  omega
theorem fit_vec (ok : InsOk cs gs) (hf : Fi cs gs B C) (h1 : ∀ q : Nat, q < cs.length → S1 cs gs B q = mx (- spOf cs gs q)) (ha : Ai cs gs B A) (met : ∀ (j : Nat) (g : Gp) (f : Int) (q : Nat), gs[j]? = some g → routeOf cs gs g = some (f, some (q : Int)) → Met cs gs B A q) : IsVec A gs B := by
  have zs : zsOf A gs B = zsOf cs gs B := by
    unfold zsOf
    congr 1
    exact List.map_congr_left fun g _ => ha.route g
  refine ⟨hf.lB, fun j g x hg hx => ?_, ?_⟩
  · have := hf.bd j g hg
    rw [List.getD_eq_getElem?_getD, hx] at this
    exact this
  rw [meets_sums (ha.ok ok), zs]
  refine ⟨fun z hz hn => ?_, fun q hq => ?_, fun q hq => ?_⟩
  · obtain ⟨j, g, hg, rfl⟩ := zs_elim hf.lB hz
    exact hf.un j g hg hn
  · have hq2 : q < cs.length := by rw [← ha.lA]; exact hq
    rw [(ha.sp2 hq2).1]
    exact h1 q hq2
  · have hq2 : q < cs.length := by rw [← ha.lA]; exact hq
    by_cases hex : ∃ (j : Nat) (g : Gp) (f : Int), gs[j]? = some g ∧ routeOf cs gs g = some (f, some (q : Int))
    · obtain ⟨j, g, f, hg, hr⟩ := hex
      have m := met j g f q hg hr
      unfold Met S2 at m
      rw [ha.sp q]
      refine Int.le_trans (b := A.getD q 0 - (rDem cs gs).getD q 0) (by omega) ?_
      unfold mx; split <;> omega
    · have e0 : ((zsOf cs gs B).map (takP (q : Int))).sum = 0 := sum_zero fun z hz => by
        obtain ⟨j, g, hg, rfl⟩ := zs_elim hf.lB hz
        unfold takP
        cases hr : routeOf cs gs g with
        | none => rfl
        | some r =>
          show (if r.2 = some (q : Int) then _ else _) = _
          rw [if_neg]
          intro e
          exact hex ⟨j, g, r.1, hg, by rw [hr, ← e]⟩
      rw [e0]; exact mx_nn _
end

/-! the bound -/
theorem sum_pick : ∀ (n f : Nat) (F : Nat → Int), f < n → ((List.range n).map fun q => if q = f then F q else 0).sum = F f
  | 0, f, F, h => by omega
  | n + 1, f, F, h => by
    rw [List.range_succ, List.map_append, List.sum_append]
    by_cases e : f = n
    · subst e
      rw [sum_zero (l := List.range f) (f := fun q => if q = f then F q else 0) (fun q hq => by rw [if_neg]; have := List.mem_range.mp hq; omega)]
      simp
    · rw [sum_pick n f F (by omega)]
      simp [show ¬ n = f from fun z => e z.symm]
theorem zip_range {as bs : List Int} {n : Nat} (ha : as.length = n) (hb : bs.length = n) : ((as.zip bs).map (fun z => z.1 * z.2)).sum = ((List.range n).map fun q => as.getD q 0 * bs.getD q 0).sum := by
  congr 1
  apply List.ext_getElem
  · simp [ha, hb]
  · intro k h1 h2
    have hk : k < n := by simpa using h2
    rw [List.getElem_map, List.getElem_zip, List.getElem_map, List.getElem_range, List.getD_eq_getElem?_getD, List.getD_eq_getElem?_getD, List.getElem?_eq_getElem (by omega), List.getElem?_eq_getElem (by omega)]
    rfl
def costOf (us vs : List Int) (r : Int × Option Int) : Int := us.getD r.1.toNat 0 + (match r.2 with | none => 0 | some y => vs.getD y.toNat 0)
def rowB (us vs : List Int) (w c : Int) : Rt → Int
  | none => 0
  | some r => c * mx (w - costOf us vs r)
def dotL (as bs : List Int) : Int := ((as.zip bs).map (fun z => z.1 * z.2)).sum
def bndOf (cs : List Int) (gs : List Gp) (ws us vs : List Int) : Int := dotL (rExc cs gs) us + dotL (rFre cs gs) vs + ((List.range gs.length).map fun j => rowB us vs (ws.getD j 0) (gs.getD j ([], 0)).2 (routeOf cs gs (gs.getD j ([], 0)))).sum
def fstU (us : List Int) (z : Rt × Int) : Int := match z.1 with | none => 0 | some r => us.getD r.1.toNat 0 * z.2
def resU (us : List Int) (z : Rt × Int) : Int := match z.1 with | none => 0 | some r => match r.2 with | none => 0 | some y => us.getD y.toNat 0 * z.2
theorem dot_mv {n : Nat} (F : Int → Int) (us : List Int) : ∀ (zs : List (Rt × Int)), (∀ z ∈ zs, ∀ r, z.1 = some r → 0 ≤ r.1 ∧ r.1 < (n : Int)) → ((List.range n).map fun q => us.getD q 0 * (zs.map (movP (q : Int))).sum).sum = (zs.map (fstU us)).sum
  | [], _ => by simp; exact sum_zero fun _ _ => rfl
  | z :: zs, h => by
    have ih := dot_mv F us zs fun z hz => h z (List.mem_cons_of_mem _ hz)
    simp only [List.map_cons, List.sum_cons, Int.mul_add]
    rw [sum_add, ih]
    congr 1
    unfold fstU
    cases hr : z.1 with
    | none => exact sum_zero fun q _ => by unfold movP; rw [hr]; simp
    | some r =>
      have hb := h z List.mem_cons_self r hr
      obtain ⟨m, e⟩ : ∃ m : Nat, r.1 = (m : Int) := ⟨r.1.toNat, by omega⟩
      have := sum_pick n m (fun q => us.getD q 0 * z.2) (by omega)
      simp only
      rw [e, Int.toNat_natCast, ← this]
      congr 1
      refine List.map_congr_left fun q _ => ?_
      unfold movP
      rw [hr]
      simp only [e]
      by_cases e2 : q = m
      · subst e2; simp
      · rw [if_neg (show ¬ ((m : Int) = (q : Int)) by omega), if_neg e2]; simp
theorem dot_tk {n : Nat} (us : List Int) : ∀ (zs : List (Rt × Int)), (∀ z ∈ zs, ∀ r, z.1 = some r → ∀ y, r.2 = some y → 0 ≤ y ∧ y < (n : Int)) → ((List.range n).map fun q => us.getD q 0 * (zs.map (takP (q : Int))).sum).sum = (zs.map (resU us)).sum
  | [], _ => by simp; exact sum_zero fun _ _ => rfl
  | z :: zs, h => by
    have ih := dot_tk us zs fun z hz => h z (List.mem_cons_of_mem _ hz)
    simp only [List.map_cons, List.sum_cons, Int.mul_add]
    rw [sum_add, ih]
    congr 1
    unfold resU
    cases hr : z.1 with
    | none => exact sum_zero fun q _ => by unfold takP; rw [hr]; simp
    | some r =>
      simp only
      cases hy : r.2 with
      | none => exact sum_zero fun q _ => by unfold takP; rw [hr]; simp [hy]
      | some y =>
        have hb := h z List.mem_cons_self r hr y hy
        obtain ⟨m, e⟩ : ∃ m : Nat, y = (m : Int) := ⟨y.toNat, by omega⟩
        have := sum_pick n m (fun q => us.getD q 0 * z.2) (by omega)
        simp only
        rw [e, Int.toNat_natCast, ← this]
        congr 1
        refine List.map_congr_left fun q _ => ?_
        unfold takP
        rw [hr]
        simp only [hy, e]
        by_cases e2 : q = m
        · subst e2; simp
        · rw [if_neg (show ¬ (some (m : Int) = some (q : Int)) by intro z; have := Option.some.inj z; omega), if_neg e2]; simp
theorem dot_range {ws xs : List Int} {n : Nat} (hw : ws.length = n) (hx : xs.length = n) : dotL ws xs = ((List.range n).map fun j => ws.getD j 0 * xs.getD j 0).sum := zip_range hw hx
theorem duality (ok : InsOk cs gs) (hv : IsVec cs gs xs) {ws us vs : List Int} (lw : ws.length = gs.length) (lu : us.length = cs.length) (lv : vs.length = cs.length) (nn : ∀ v ∈ vs, 0 ≤ v) : dotL ws xs ≤ bndOf cs gs ws us vs := by
  obtain ⟨hl, hb, hm⟩ := hv
  obtain ⟨m0, m1, m2⟩ := (meets_sums ok).mp hm
  have hin := zs_in (xs := xs) ok
  have e1 : dotL (rExc cs gs) us = ((zsOf cs gs xs).map (fstU us)).sum := by
    rw [dot_range (rExc_len ..) lu, ← dot_mv (n := cs.length) (fun x => x) us _ (fun z hz r hr => (hin z hz r hr).1)]
    congr 1
    refine range_cong fun q hq => ?_
    rw [exc_getD hq, m1 q hq, Int.mul_comm]
  have e2 : ((zsOf cs gs xs).map (resU vs)).sum ≤ dotL (rFre cs gs) vs := by
    rw [dot_range (rFre_len ..) lv, ← dot_tk (n := cs.length) vs _ (fun z hz r hr => (hin z hz r hr).2)]
    refine sum_mono fun q hq => ?_
    have hq := List.mem_range.mp hq
    rw [fre_getD hq, Int.mul_comm (mx _)]
    refine Int.mul_le_mul_of_nonneg_left (m2 q hq) (nn _ ?_)
    rw [List.getD_eq_getElem?_getD, List.getElem?_eq_getElem (by omega)]
    exact List.getElem_mem _
  rw [zs_map2 hl] at e1 e2
  unfold bndOf
  rw [dot_range lw hl, e1]
  refine Int.le_trans ?_ (Int.add_le_add_right (Int.add_le_add_left e2 _) _)
  rw [← sum_add, ← sum_add]
  refine sum_mono fun j hj => ?_
  have hj := List.mem_range.mp hj
  have hg : gs[j]? = some (gs.getD j ([], 0)) := by rw [List.getD_eq_getElem?_getD, List.getElem?_eq_getElem hj]; rfl
  generalize gs.getD j ([], 0) = g at hg ⊢
  have hx : xs[j]? = some (xs.getD j 0) := by rw [List.getD_eq_getElem?_getD, List.getElem?_eq_getElem (by omega)]; rfl
  have hbj := hb j g _ hg hx
  have hz := List.mem_of_getElem? (zs_get (cs := cs) hl hg)
  generalize xs.getD j 0 = x at hbj hz ⊢
  generalize ws.getD j 0 = w
  cases hr : routeOf cs gs g with
  | none =>
    have : x = 0 := m0 _ hz hr
    subst this
    simp [rowB, fstU, resU]
  | some r =>
    unfold rowB costOf fstU resU
    simp only
    have key : ∀ c : Int, w * x ≤ c * x + g.2 * mx (w - c) := fun c => by
      have h1 : (w - c) * x ≤ mx (w - c) * g.2 := by
        refine Int.le_trans (b := mx (w - c) * x) ?_ ?_
        · refine Int.mul_le_mul_of_nonneg_right ?_ hbj.1
          unfold mx; split <;> omega
        · exact Int.mul_le_mul_of_nonneg_left hbj.2 (mx_nn _)
      rw [Int.sub_mul] at h1
      rw [Int.mul_comm g.2]
      omega
    cases hy : r.2 with
    | none =>
      have := key (us.getD r.1.toNat 0)
      simp only [Int.add_zero] at this ⊢
      exact this
    | some y =>
      have := key (us.getD r.1.toNat 0 + vs.getD y.toNat 0)
      rw [Int.add_mul] at this
      exact this
end
end Pv

namespace Pv
open PySem PySem.Spec PyProof.Rows L2
abbrev sWhole : Stmt := topS 2
abbrev sWithin : Stmt := topS 3
abbrev sTupOf : Stmt := topS 4
theorem scWhole : FnScope ["value"] ["value"] (defScope sWhole) := ⟨rfl, rfl, rfl, by decide +kernel, rfl, by decide +kernel, by decide +kernel⟩
theorem scWithin : FnScope ["value", "least", "most"] ["value", "least", "most"] (defScope sWithin) := ⟨rfl, rfl, rfl, by decide +kernel, rfl, by decide +kernel, by decide +kernel⟩
theorem scTupOf : FnScope ["value", "least", "most"] ["value", "least", "most"] (defScope sTupOf) := ⟨rfl, rfl, rfl, by decide +kernel, rfl, by decide +kernel, by decide +kernel⟩

/-! what a value is, by its data -/
section
variable {P : Program} {w : World} {K : PySem.W.Frag} {mg : Str → Option Value} {base : Heap}
def spWhole (K : PySem.W.Frag) : Sp := fun vs H Q _ => ∃ (st r : Addr) (v : V) (d : PyData), vs = [v] ∧ Dq K st r H v d ∧ Q (.bl (wholeD d)) H
theorem ok_whole {f : Addr} {fd : FuncData} {k : Nat} (F : Fun K "is_whole" "is_whole" sWhole f fd) (mi : mg "isinstance" = none) (mint : mg "int" = none) (mb : mg "bool" = none) :
    FnOk P w K mg base CX0 (k + 1) f fd ["value"] (spWhole K) := by
  refine F.ok scWhole (fun vs H Q E h => ?_) (fun cdv A outer s H vs Q E hr h => ?_)
  · obtain ⟨st, r, v, d, rfl, _⟩ := h; rfl
  · obtain ⟨st, r, v, d, rfl, hd, q⟩ := h
    refine ⟨_, pss_one (ps_ret (pe_and (pe_callB call_isi (by rfl) mi (by decide +kernel) (pa_cons (pv 0) (pa_cons (pe_bltn (v := .ty "int") (by rfl) mint (by decide +kernel) rfl) pa_nil)))
      (pe_one (pe_not (pe_callB call_isi (by rfl) mi (by decide +kernel) (pa_cons (pv 0) (pa_cons (pe_bltn (v := .ty "bool") (by rfl) mb (by decide +kernel) rfl) pa_nil))))))), ?_⟩
    refine ⟨v, rfl, v, .ty "int", _, _, _, rfl, .ty _, hd.ty, kit_int d, _, rfl, ite2 (fun h1 => ?_) (fun h1 => ?_)⟩
    · refine ⟨v, rfl, v, .ty "bool", _, _, _, rfl, .ty _, hd.ty, kit_bool d, _, rfl, ?_⟩
      unfold wholeD at q
      rw [h1, Bool.true_and] at q
      exact q
    · unfold wholeD at q
      rw [Bool.eq_false_iff.mpr h1, Bool.false_and] at q
      exact q
def spWithin (K : PySem.W.Frag) : Sp := fun vs H Q _ => ∃ (st r : Addr) (v : V) (d : PyData) (a b : Int), vs = [v, .int a, .int b] ∧ Dq K st r H v d ∧ Q (.bl (withinD a b d)) H
theorem ok_within {f fW : Addr} {fd fdW : FuncData} {k : Nat} (F : Fun K "is_within" "is_within" sWithin f fd) (FW : Fun K "is_whole" "is_whole" sWhole fW fdW) (bW : Binds K fdW ["value"] []) (gW : mg "is_whole" = some (.ref fW))
    (GW : FnOk P w K mg base CX0 1 fW fdW ["value"] (spWhole K)) : FnOk P w K mg base CX0 (1 + k + 1) f fd ["value", "least", "most"] (spWithin K) := by
  refine F.ok scWithin (fun vs H Q E h => ?_) (fun cdv A outer s H vs Q E hr h => ?_)
  · obtain ⟨st, r, v, d, a, b, rfl, _⟩ := h; rfl
  · obtain ⟨st, r, v, d, a, b, rfl, hd, q⟩ := h
    refine ⟨_, pss_one (ps_ret (pe_and (pe_call GW (hr.mono (by omega)) (by rfl) gW FW.kp bW .nil pass0 (pa_cons (pv 0) pa_nil)) (pe_one (pe_chain op_le op_le (pv 1) (pv 0) (pv 2))))), ?_⟩
    refine ⟨v, rfl, st, r, v, d, rfl, hd, _, rfl, ite2 (fun h1 => ?_) (fun h1 => ?_)⟩
    · cases d with
      | int i =>
        cases hd
        refine ⟨.int a, rfl, .int i, rfl, _, _, rfl, rfl, _, rfl, ite2 (fun h2 => ?_) (fun h2 => ?_)⟩
        · refine ⟨.int b, rfl, _, _, rfl, rfl, ?_⟩
          have h2' : a ≤ i := of_decide_eq_true h2
          simpa [withinD, h2'] using q
        · have h2' : ¬ a ≤ i := fun z => h2 (decide_eq_true z)
          simpa [withinD, h2'] using q
      | _ => simp [wholeD, isInt, isBool] at h1
    · cases d with
      | int i => simp [wholeD, isInt, isBool] at h1
      | _ => exact q
def spTupOf (K : PySem.W.Frag) : Sp := fun vs H Q _ => ∃ (st r : Addr) (v : V) (d : PyData) (a b : Int), vs = [v, .int a, .int b] ∧ Dq K st r H v d ∧ Q (.bl (tupOfD a b d)) H
theorem ok_tupOf {f : Addr} {fd : FuncData} {k : Nat} (F : Fun K "is_tuple_of" "is_tuple_of" sTupOf f fd) (mi : mg "isinstance" = none) (mt : mg "tuple" = none) (ml : mg "len" = none) :
    FnOk P w K mg base CX0 (k + 1) f fd ["value", "least", "most"] (spTupOf K) := by
  refine F.ok scTupOf (fun vs H Q E h => ?_) (fun cdv A outer s H vs Q E hr h => ?_)
  · obtain ⟨st, r, v, d, a, b, rfl, _⟩ := h; rfl
  · obtain ⟨st, r, v, d, a, b, rfl, hd, q⟩ := h
    refine ⟨_, pss_one (ps_ret (pe_and (pe_callB call_isi (by rfl) mi (by decide +kernel) (pa_cons (pv 0) (pa_cons (pe_bltn (v := .ty "tuple") (by rfl) mt (by decide +kernel) rfl) pa_nil)))
      (pe_one (pe_chain op_le op_le (pv 1) (pe_callB call_len_seq (by rfl) ml PySem.boot_len (pa_cons (pv 0) pa_nil)) (pv 2))))), ?_⟩
    refine ⟨v, rfl, v, .ty "tuple", _, _, _, rfl, .ty _, hd.ty, kit_tup d, _, rfl, ite2 (fun h1 => ?_) (fun h1 => ?_)⟩
    · cases d with
      | tuple ds =>
        cases hd with
        | @tup p xs _ hT ha =>
          refine ⟨.int a, rfl, .ref p, rfl, p, xs, rfl, .inr hT, _, _, rfl, rfl, _, rfl, ite2 (fun h2 => ?_) (fun h2 => ?_)⟩
          · refine ⟨.int b, rfl, _, _, rfl, rfl, ?_⟩
            have h2' : a ≤ (xs.length : Int) := of_decide_eq_true h2
            simpa [tupOfD, ← DqAll.len ha, h2'] using q
          · have h2' : ¬ a ≤ (xs.length : Int) := fun z => h2 (decide_eq_true z)
            simpa [tupOfD, ← DqAll.len ha, h2'] using q
      | _ => simp [isTup] at h1
    · cases d with
      | tuple ds => simp [isTup] at h1
      | _ => exact q
end
end Pv

namespace Pv
open PySem PySem.Spec PyProof.Rows L2
abbrev sOpt : Stmt := topS 12
abbrev sDem : Stmt := topS 13
abbrev sExc : Stmt := topS 14
abbrev sFre : Stmt := topS 15
abbrev sCla : Stmt := topS 16
abbrev sCro : Stmt := topS 17
abbrev sRes : Stmt := topS 18
theorem scOpt : FnScope ["instance", "group", "option", "posts"] ["instance", "group", "option"] (defScope sOpt) := ⟨rfl, rfl, rfl, by decide +kernel, rfl, by decide +kernel, by decide +kernel⟩
theorem scDem : FnScope ["instance", "totals", "posts", "count"] ["instance"] (defScope sDem) := ⟨rfl, rfl, rfl, by decide +kernel, rfl, by decide +kernel, by decide +kernel⟩
theorem scExc : FnScope ["instance", "capacity", "demand"] ["instance"] (defScope sExc) := ⟨rfl, rfl, rfl, by decide +kernel, rfl, by decide +kernel, by decide +kernel⟩
theorem scFre : FnScope ["instance", "capacity", "demand"] ["instance"] (defScope sFre) := ⟨rfl, rfl, rfl, by decide +kernel, rfl, by decide +kernel, by decide +kernel⟩
theorem scCla : FnScope ["instance", "post", "places"] ["instance"] (defScope sCla) := ⟨rfl, rfl, rfl, by decide +kernel, rfl, by decide +kernel, by decide +kernel⟩
theorem scCro : FnScope ["instance", "post", "excess"] ["instance"] (defScope sCro) := ⟨rfl, rfl, rfl, by decide +kernel, rfl, by decide +kernel, by decide +kernel⟩
theorem scRes : FnScope ["instance", "group", "posts", "claimed", "option"] ["instance", "group"] (defScope sRes) := ⟨rfl, rfl, rfl, by decide +kernel, rfl, by decide +kernel, by decide +kernel⟩
/-! the mathematics -/
section
variable {P : Program} {w : World} {K : PySem.W.Frag} {mg : Str → Option Value} {base : Heap}
theorem grp_at {H : Hp} {xs : List V} {gs : List Gp} (h : DpAll K H xs (gs.map dGrp)) {i : Nat} {g : Gp} (hg : gs[i]? = some g) : ∃ a p, xs[i]? = some (.ref a) ∧ SqT K H a [.ref p, .int g.2] ∧ SqT K H p (g.1.map V.int) := by
  have hl := DpAll.len h
  rw [List.length_map] at hl
  have hi : i < xs.length := by rw [hl]; exact (List.getElem?_eq_some_iff.mp hg).1
  obtain ⟨d, hd, hx⟩ := DpAll.at h (List.getElem?_eq_getElem hi)
  rw [List.getElem?_map, hg] at hd
  cases hd
  obtain ⟨a, p, e, h1, h2⟩ := grp_ref hx
  exact ⟨a, p, by rw [List.getElem?_eq_getElem hi, e], h1, h2⟩
def spOpt (K : PySem.W.Frag) : Sp := fun vs H Q _ => ∃ (i : Addr) (gi k : Nat) (cs : List Int) (gs : List Gp) (g : Gp), vs = [.ref i, .int gi, .int k] ∧ Dp K H (.ref i) (dInst cs gs) ∧ gs[gi]? = some g ∧ k ≤ g.1.length ∧ Q (optV g.1 k) H
theorem ok_opt {f : Addr} {fd : FuncData} {k : Nat} (F : Fun K "option_post" "option_post" sOpt f fd) (ml : mg "len" = none) : FnOk P w K mg base CX0 (k + 1) f fd ["instance", "group", "option"] (spOpt K) := by
  refine F.ok scOpt (fun vs H Q E h => ?_) (fun cdv A outer s H vs Q E hr h => ?_)
  · obtain ⟨i, gi, k, cs, gs, g, rfl, _⟩ := h; rfl
  · obtain ⟨i, gi, k, cs, gs, g, rfl, hI, hg, hk, q⟩ := h
    refine ⟨_, pss_cons (ps_set (i := 3) scOpt.nd rfl (.inl rfl) (pe_ix ix_tup (pe_ix ix_tup (pe_ix ix_tup (pv 0) pe_int (fun _ _ => rfl)) (pv 1) (fun _ _ => rfl)) pe_int (fun _ _ => rfl)))
      (pss_cons (ps_if (pt_cmpR op_eq (pv 2) (pe_callB call_len_seq (by rfl) ml PySem.boot_len (pa_cons (pv 3) pa_nil)) (nomark _)) (pss_one (ps_ret pe_non)) pss_nil)
      (pss_one (ps_ret (pe_ix ix_tup (pv 3) (pv 2) (fun _ _ => rfl))))), ?_⟩
    obtain ⟨_, ca, ga, xs, e, hi, hc, hgt, hgs⟩ := inst_open hI
    cases e
    obtain ⟨gA, pA, hx, hG, hP⟩ := grp_at hgs hg
    refine ⟨.ref i, rfl, i, _, 1, .ref ga, rfl, rfl, hi, atI_nat (j := 1) rfl, .int gi, rfl, ga, _, _, _, rfl, rfl, hgt, atI_nat hx, gA, _, 0, .ref pA, rfl, rfl, hG, atI_nat (j := 0) rfl, ?_⟩
    refine ⟨.int k, rfl, .ref pA, rfl, pA, _, rfl, .inr hP, rfl, _, rfl, ite2 (fun h1 => ?_) (fun h1 => ?_)⟩
    · have e : (k : Int) = ((g.1.map V.int).length : Nat) := V.int.inj (of_decide_eq_true h1)
      rw [List.length_map] at e
      have hk2 : k = g.1.length := by omega
      have : optV g.1 k = .non := by unfold optV; rw [List.getElem?_eq_none (by omega)]
      rw [this] at q
      exact q
    · have hk2 : k < g.1.length := by
        rcases Nat.lt_or_eq_of_le hk with h | h
        · exact h
        · exact absurd (decide_eq_true (by rw [h, List.length_map])) h1
      have : optV g.1 k = .int g.1[k] := by unfold optV; rw [List.getElem?_eq_getElem hk2]
      rw [this] at q
      exact ⟨.ref pA, rfl, .int k, rfl, pA, _, _, _, rfl, rfl, hP, atI_nat (by rw [List.getElem?_map, List.getElem?_eq_getElem hk2]; rfl), q⟩
def spVec (K : PySem.W.Frag) (r : List Int → List Gp → List Int) : Sp := fun vs H Q _ => ∃ (i : Addr) (cs : List Int) (gs : List Gp), vs = [.ref i] ∧ Dp K H (.ref i) (dInst cs gs) ∧ InsOk cs gs ∧
  ∀ H' p, Same H H' → Dp K H' (.ref p) (dI (r cs gs)) → Q (.ref p) H'
set_option maxHeartbeats 2000000 in
theorem ok_dem {f : Addr} {fd : FuncData} {k : Nat} (F : Fun K "demands" "demands" sDem f fd) (ml : mg "len" = none) (mt : mg "tuple" = none) : FnOk P w K mg base CX0 (k + 1) f fd ["instance"] (spVec K rDem) := by
  refine F.ok scDem (fun vs H Q E h => ?_) (fun cdv A outer s H vs Q E hr h => ?_)
  · obtain ⟨i, cs, gs, rfl, _⟩ := h; rfl
  · obtain ⟨i, cs, gs, rfl, hI, ok, q⟩ := h
    refine ⟨_, pss_cons (ps_set (i := 1) scDem.nd rfl (.inl rfl) (pe_op op_rep (pe_lst (pa_cons pe_int pa_nil)) (pe_callB call_len_seq (by rfl) ml PySem.boot_len (pa_cons (pe_ix ix_tup (pv 0) pe_int (fun _ _ => rfl)) pa_nil))))
      (pss_cons (ps_for PassesOwn.never rfl (pi_tup (pe_ix ix_tup (pv 0) pe_int (fun _ _ => rfl)))
          (pg_tup rfl (pgs_cons (pg_name (i := 2) scDem.nd rfl (.inl rfl)) (pgs_cons (pg_name (i := 3) scDem.nd rfl (.inl rfl)) pgs_nil)))
          (pss_one (ps_if (pt_cmpR op_gt (pe_callB call_len_seq (by rfl) ml PySem.boot_len (pa_cons (pv 2) pa_nil)) pe_int (nomark _))
            (pss_one (ps_augS (pv 1) (pe_ix ix_tup (pv 2) pe_int (fun _ _ => rfl)) get_list (pv 3) ip_add set_list)) pss_nil)))
      (pss_one (ps_ret (pe_callTy call_tuple_of (by rfl) mt (by decide +kernel) (pa_cons (pv 1) pa_nil))))), ?_⟩
    obtain ⟨_, ca, ga, xs, e, hi, hc, hg, hgs⟩ := inst_open hI
    cases e
    have h6 := ok.c6
    refine ⟨by decide, fun p0 n0 => ⟨.ref i, rfl, i, _, 0, .ref ca, rfl, rfl, (TupK.new n0).sq hi, atI_nat (j := 0) rfl, ca, _, rfl, .inr ((TupK.new n0).sq hc), p0, _, _, rfl, rfl, upd_same, by omega, ?_, ?_, fun L nL => ?_⟩⟩
    · rw [List.length_map]; omega
    · rw [List.length_map]; show 1 * _ ≤ sizeLine; have := small (n := cs.length) (by omega); simp; omega
    have fL : H L = none := freeOf nL
    have s1 : Same H (upd (upd H p0 (.lst [.int 0])) L (.lst (List.replicate ((List.map V.int cs).length : Int).toNat [V.int 0]).flatten)) := samePut (sameNew n0) fL
    refine ⟨.ref i, rfl, i, _, 1, .ref ga, rfl, rfl, (TupK.of s1).sq hi, atI_nat (j := 1) rfl, ga, rfl, ⟨_, (TupK.of s1).sq hg⟩, for_it (walk_tup (K := K) (a := ga) (xs := xs))
      (fun i' σ H2 => ∃ y2 y3, σ = [some (.ref i), some (.ref L), y2, y3] ∧ Same H H2 ∧ H2 L = some (.lst ((demOf cs.length (gs.take i')).map V.int)))
      ⟨none, none, rfl, s1, ?_⟩ ?_ ?_ ?_⟩
    · rw [upd_same, List.length_map, Int.toNat_natCast, zeros_V]; rfl
    · rintro i' σ H2 _ ⟨y2, y3, rfl, s2, e2⟩
      exact (TupK.of s2).sq hg
    · rintro i' v σ H2 H3 hlt ⟨y2, y3, rfl, s2, e2⟩ ⟨rfl, hx⟩
      obtain ⟨d, hd, hxd⟩ := DpAll.at hgs hx
      rw [List.getElem?_map] at hd
      obtain ⟨g, hgi, rfl⟩ := Option.map_eq_some_iff.mp hd
      obtain ⟨gA, pA, rfl, hG, hP⟩ := grp_ref hxd
      have tk := TupK.of s2
      have hsn := demOf_snoc (n := cs.length) hgi
      have hgp := (ok.gp g (List.mem_of_getElem? hgi)).2.1
      have hdl := demOf_len cs.length (gs.take i')
      generalize hcur : demOf cs.length (gs.take i') = cur at e2 hsn hdl
      refine ⟨gA, _, rfl, tk.sq hG, rfl, _, _, rfl, _, _, rfl, rfl, ?_⟩
      refine ⟨.ref pA, rfl, pA, _, rfl, .inr (tk.sq hP), _, _, rfl, rfl, _, rfl, ite2 (fun h1 => ?_) (fun h1 => ?_)⟩
      · obtain ⟨pp, ps, hps⟩ : ∃ pp ps, g.1 = pp :: ps := by
          cases hgg : g.1 with
          | nil => rw [hgg] at h1; exact absurd (of_decide_eq_true h1) (by simp)
          | cons a b => exact ⟨a, b, rfl⟩
        have hpr := hgp pp (by rw [hps]; simp)
        obtain ⟨pn, rfl⟩ : ∃ pn : Nat, pp = pn := ⟨pp.toNat, by omega⟩
        have hpl : pn < cur.length := by omega
        refine ⟨.ref L, rfl, .ref pA, rfl, pA, _, 0, .int pn, rfl, rfl, tk.sq hP, atI_nat (j := 0) (by rw [hps]; rfl), L, _, pn, .int cur[pn], rfl, rfl, SqL.of e2, by rw [List.getElem?_map, List.getElem?_eq_getElem hpl]; rfl, .int g.2, rfl, _, _, rfl, rfl, L, _, _, pn, rfl, rfl, e2, ixN_nat (by rw [List.length_map]; exact hpl), ?_⟩
        refine ⟨_, _, rfl, samePut s2 fL, ?_⟩
        rw [upd_same, hsn]
        unfold dAdd
        rw [hps]
        show _ = some (HO.lst ((addAt cur pn g.2).map V.int))
        unfold addAt
        rw [Int.toNat_natCast, List.getD_eq_getElem?_getD, List.getElem?_eq_getElem hpl, List.map_set]
        rfl
      · have hge : g.1 = [] := by
          cases hgg : g.1 with
          | nil => rfl
          | cons a b => rw [hgg] at h1; exact absurd (decide_eq_true (by simp)) h1
        refine ⟨_, _, rfl, s2, ?_⟩
        rw [e2, hsn]
        unfold dAdd
        rw [hge]
    · rintro σ H2 ⟨y2, y3, rfl, s2, e2⟩
      rw [DpAll.len hgs, List.length_map, List.take_length] at e2
      exact ⟨.ref L, rfl, L, _, rfl, .inl ⟨SqL.of e2, fun p np => q _ _ (s2.trans (sameNew np)) (dI_sq (SqT.of upd_same))⟩⟩
end
end Pv

namespace Pv
open PySem PySem.Spec PyProof.Rows L2
section
variable {P : Program} {w : World} {K : PySem.W.Frag} {mg : Str → Option Value} {base : Heap}
theorem ok_exc {f fM : Addr} {fd fdM : FuncData} {k : Nat} (F : Fun K "excesses" "excesses" sExc f fd)
    (FM : Fun K "demands" "demands" sDem fM fdM) (bM : Binds K fdM ["instance"] []) (gM : mg "demands" = some (.ref fM)) (GM : FnOk P w K mg base CX0 1 fM fdM ["instance"] (spVec K rDem))
    (mt : mg "tuple" = none) (mz : mg "zip" = none) (mm : mg "max" = none) : FnOk P w K mg base CX0 (1 + k + 1) f fd ["instance"] (spVec K rExc) := by
  refine F.ok scExc (fun vs H Q E h => ?_) (fun cdv A outer s H vs Q E hr h => ?_)
  · obtain ⟨i, cs, gs, rfl, _⟩ := h; rfl
  · obtain ⟨i, cs, gs, rfl, hI, ok, q⟩ := h
    refine ⟨_, pss_one (ps_ret (pe_callTy call_tuple_of (by rfl) mt (by decide +kernel) (pa_cons
        (pe_lc (own := [("capacity", 1), ("demand", 2)]) (g := gTup K 2 (gCons (gName 1) (gCons (gName 2) gNil))) (tt := tYes) rfl scExc.nd
          (RZ.pi_zipA (by rfl) mz (pa_cons (pe_ix ix_tup (pv 0) pe_int (fun _ _ => rfl)) (pa_cons (pe_call GM (hr.mono (by omega)) (by rfl) gM FM.kp bM .nil pass0 (pa_cons (pv 0) pa_nil)) pa_nil))) (blkOk_by (N := ["instance", "capacity", "demand"]) (sc := defScope sExc) (by decide +kernel))
          (fun _ _ _ _ _ => pg_tup rfl (pgs_cons (pg_name (i := 1) scExc.nd rfl (.inl rfl)) (pgs_cons (pg_name (i := 2) scExc.nd rfl (.inl rfl)) pgs_nil))) (fun _ _ _ _ _ => pts_nil)
          (fun _ _ _ _ _ => pe_callB (call_max2 rfl) (by rfl) mm (by decide +kernel) (pa_cons pe_int (pa_cons (pe_op op_sub (pv 2) (pv 1)) pa_nil)))) pa_nil))), ?_⟩
    obtain ⟨_, ca, ga, xs, e, hi, hc, hg, hgs⟩ := inst_open hI
    cases e
    have h6 := ok.c6
    refine ⟨.ref i, rfl, i, _, 0, .ref ca, rfl, rfl, hi, atI_nat (j := 0) rfl, .ref i, rfl, i, cs, gs, rfl, hI, ok, fun H1 dm s1 hdm => ?_⟩
    have hD := sq_dI hdm
    have hc1 := (TupK.of s1).sq hc
    refine ⟨ca, dm, _, _, rfl, .inr ⟨hc1, hD, fun D nD => lc_it (walk_zipT (K := K) (a := ca) (b := dm) (xs := cs.map V.int) (ys := (rDem cs gs).map V.int) rfl)
      (fun j H2 => Same H1 H2 ∧ H2 D = some (.lst ((((cs.take j).zip ((rDem cs gs).take j)).map (fun q => mx (q.2 - q.1))).map V.int))) ⟨sameNew nD, upd_same⟩ (fun j H2 _ h2 => ⟨(TupK.of h2.1).sq hc1, (TupK.of h2.1).sq hD⟩) ?_ ?_⟩⟩
    · rintro j v H2 H3 hlt ⟨s2, e2⟩ ⟨T, x, y, rfl, nT, rfl, hx, hy⟩
      have hx' : (cs.map V.int)[j]? = some x := hx
      have hy' : ((rDem cs gs).map V.int)[j]? = some y := hy
      rw [List.getElem?_map] at hx' hy'
      obtain ⟨c, hcj, rfl⟩ := Option.map_eq_some_iff.mp hx'
      obtain ⟨d, hdj, rfl⟩ := Option.map_eq_some_iff.mp hy'
      have hjl : j < cs.length := (List.getElem?_eq_some_iff.mp hcj).1
      refine ⟨T, _, rfl, SqT.of upd_same, rfl, _, _, rfl, _, _, rfl, rfl, rfl, .int d, rfl, .int c, rfl, _, _, rfl, rfl, _, _, rfl, _, upNew nT e2, ?_, samePut (s2.trans (sameNew nT)) nD, ?_⟩
      · rw [List.length_map, List.length_map, List.length_zip, List.length_take, List.length_take]; exact small (by omega)
      · rw [upd_same, zip_snoc hcj hdj, List.map_append, List.map_append]; rfl
    · rintro H2 ⟨s2, e2⟩
      rw [List.length_map, List.length_map, zip_take, List.take_of_length_le (by rw [List.length_zip]; exact Nat.le_refl _)] at e2
      exact ⟨D, _, rfl, .inl ⟨SqL.of e2, fun p np => q _ _ ((s1.trans s2).trans (sameNew np)) (dI_sq (SqT.of upd_same))⟩⟩
theorem ok_fre {f fM : Addr} {fd fdM : FuncData} {k : Nat} (F : Fun K "free_places" "free_places" sFre f fd)
    (FM : Fun K "demands" "demands" sDem fM fdM) (bM : Binds K fdM ["instance"] []) (gM : mg "demands" = some (.ref fM)) (GM : FnOk P w K mg base CX0 1 fM fdM ["instance"] (spVec K rDem))
    (mt : mg "tuple" = none) (mz : mg "zip" = none) (mm : mg "max" = none) : FnOk P w K mg base CX0 (1 + k + 1) f fd ["instance"] (spVec K rFre) := by
  refine F.ok scFre (fun vs H Q E h => ?_) (fun cdv A outer s H vs Q E hr h => ?_)
  · obtain ⟨i, cs, gs, rfl, _⟩ := h; rfl
  · obtain ⟨i, cs, gs, rfl, hI, ok, q⟩ := h
    refine ⟨_, pss_one (ps_ret (pe_callTy call_tuple_of (by rfl) mt (by decide +kernel) (pa_cons
        (pe_lc (own := [("capacity", 1), ("demand", 2)]) (g := gTup K 2 (gCons (gName 1) (gCons (gName 2) gNil))) (tt := tYes) rfl scFre.nd
          (RZ.pi_zipA (by rfl) mz (pa_cons (pe_ix ix_tup (pv 0) pe_int (fun _ _ => rfl)) (pa_cons (pe_call GM (hr.mono (by omega)) (by rfl) gM FM.kp bM .nil pass0 (pa_cons (pv 0) pa_nil)) pa_nil))) (blkOk_by (N := ["instance", "capacity", "demand"]) (sc := defScope sFre) (by decide +kernel))
          (fun _ _ _ _ _ => pg_tup rfl (pgs_cons (pg_name (i := 1) scFre.nd rfl (.inl rfl)) (pgs_cons (pg_name (i := 2) scFre.nd rfl (.inl rfl)) pgs_nil))) (fun _ _ _ _ _ => pts_nil)
          (fun _ _ _ _ _ => pe_callB (call_max2 rfl) (by rfl) mm (by decide +kernel) (pa_cons pe_int (pa_cons (pe_op op_sub (pv 1) (pv 2)) pa_nil)))) pa_nil))), ?_⟩
    obtain ⟨_, ca, ga, xs, e, hi, hc, hg, hgs⟩ := inst_open hI
    cases e
    have h6 := ok.c6
    refine ⟨.ref i, rfl, i, _, 0, .ref ca, rfl, rfl, hi, atI_nat (j := 0) rfl, .ref i, rfl, i, cs, gs, rfl, hI, ok, fun H1 dm s1 hdm => ?_⟩
    have hD := sq_dI hdm
    have hc1 := (TupK.of s1).sq hc
    refine ⟨ca, dm, _, _, rfl, .inr ⟨hc1, hD, fun D nD => lc_it (walk_zipT (K := K) (a := ca) (b := dm) (xs := cs.map V.int) (ys := (rDem cs gs).map V.int) rfl)
      (fun j H2 => Same H1 H2 ∧ H2 D = some (.lst ((((cs.take j).zip ((rDem cs gs).take j)).map (fun q => mx (q.1 - q.2))).map V.int))) ⟨sameNew nD, upd_same⟩ (fun j H2 _ h2 => ⟨(TupK.of h2.1).sq hc1, (TupK.of h2.1).sq hD⟩) ?_ ?_⟩⟩
    · rintro j v H2 H3 hlt ⟨s2, e2⟩ ⟨T, x, y, rfl, nT, rfl, hx, hy⟩
      have hx' : (cs.map V.int)[j]? = some x := hx
      have hy' : ((rDem cs gs).map V.int)[j]? = some y := hy
      rw [List.getElem?_map] at hx' hy'
      obtain ⟨c, hcj, rfl⟩ := Option.map_eq_some_iff.mp hx'
      obtain ⟨d, hdj, rfl⟩ := Option.map_eq_some_iff.mp hy'
      have hjl : j < cs.length := (List.getElem?_eq_some_iff.mp hcj).1
      refine ⟨T, _, rfl, SqT.of upd_same, rfl, _, _, rfl, _, _, rfl, rfl, rfl, .int c, rfl, .int d, rfl, _, _, rfl, rfl, _, _, rfl, _, upNew nT e2, ?_, samePut (s2.trans (sameNew nT)) nD, ?_⟩
      · rw [List.length_map, List.length_map, List.length_zip, List.length_take, List.length_take]; exact small (by omega)
      · rw [upd_same, zip_snoc hcj hdj, List.map_append, List.map_append]; rfl
    · rintro H2 ⟨s2, e2⟩
      rw [List.length_map, List.length_map, zip_take, List.take_of_length_le (by rw [List.length_zip]; exact Nat.le_refl _)] at e2
      exact ⟨D, _, rfl, .inl ⟨SqL.of e2, fun p np => q _ _ ((s1.trans s2).trans (sameNew np)) (dI_sq (SqT.of upd_same))⟩⟩
theorem ok_cla {f fM : Addr} {fd fdM : FuncData} {k : Nat} (F : Fun K "claimed_posts" "claimed_posts" sCla f fd)
    (FM : Fun K "free_places" "free_places" sFre fM fdM) (bM : Binds K fdM ["instance"] []) (gM : mg "free_places" = some (.ref fM)) (GM : FnOk P w K mg base CX0 2 fM fdM ["instance"] (spVec K rFre))
    (mt : mg "tuple" = none) (me : mg "enumerate" = none) : FnOk P w K mg base CX0 (2 + k + 1) f fd ["instance"] (spVec K rCla) := by
  refine F.ok scCla (fun vs H Q E h => ?_) (fun cdv A outer s H vs Q E hr h => ?_)
  · obtain ⟨i, cs, gs, rfl, _⟩ := h; rfl
  · obtain ⟨i, cs, gs, rfl, hI, ok, q⟩ := h
    refine ⟨_, pss_one (ps_ret (pe_callTy call_tuple_of (by rfl) mt (by decide +kernel) (pa_cons
        (pe_lc (own := [("post", 1), ("places", 2)]) (g := gTup K 2 (gCons (gName 1) (gCons (gName 2) gNil))) (tt := tTest (tOp rEq (tVar 2) (tC (.int 0)))) (te := tVar 1) rfl scCla.nd
          (pi_enumT (by rfl) me (pa_cons (pe_call GM (hr.mono (by omega)) (by rfl) gM FM.kp bM .nil pass0 (pa_cons (pv 0) pa_nil)) pa_nil)) (blkOk_by (N := ["instance", "post", "places"]) (sc := defScope sCla) (by decide +kernel))
          (fun _ _ _ _ _ => pg_tup rfl (pgs_cons (pg_name (i := 1) scCla.nd rfl (.inl rfl)) (pgs_cons (pg_name (i := 2) scCla.nd rfl (.inl rfl)) pgs_nil)))
          (fun _ _ _ _ _ => pts_one (pt_cmpR op_eq (pv 2) pe_int (nomark _)))
          (fun _ _ _ _ _ => pv 1)) pa_nil))), ?_⟩
    have h6 := ok.c6
    refine ⟨.ref i, rfl, i, cs, gs, rfl, hI, ok, fun H1 dm s1 hdm => ?_⟩
    have hD := sq_dI hdm
    refine ⟨dm, _, rfl, hD, fun D nD => lc_it (walk_enumT (K := K) (a := dm) (xs := (rFre cs gs).map V.int))
      (fun j H2 => Same H1 H2 ∧ H2 D = some (.lst ((sel (fun x => decide (x = 0)) (rFre cs gs) j).map V.int))) ⟨sameNew nD, upd_same⟩ (fun j H2 _ h2 => (TupK.of h2.1).sq hD) ?_ ?_⟩
    · rintro j v H2 H3 hlt ⟨s2, e2⟩ ⟨T, x, y, rfl, nT, rfl, hx, hy⟩
      have hx' : some (V.int (j : Nat)) = some x := hx
      cases hx'
      have hy' : ((rFre cs gs).map V.int)[j]? = some y := hy
      rw [List.getElem?_map] at hy'
      obtain ⟨d, hdj, rfl⟩ := Option.map_eq_some_iff.mp hy'
      have hjl : j < cs.length := by have := (List.getElem?_eq_some_iff.mp hdj).1; rw [rFre_len] at this; exact this
      have hs := sel_succ (fun x => decide (x = 0)) (rFre cs gs) hdj
      have e3 := upNew (o := .tup [.int (j : Nat), .int d]) nT e2
      have s3 := s2.trans (sameNew (o := .tup [.int (j : Nat), .int d]) nT)
      refine ⟨T, _, rfl, SqT.of upd_same, rfl, _, _, rfl, _, _, rfl, rfl, rfl, .int d, rfl, rfl, _, rfl, ite2 (fun h1 => ?_) (fun h1 => ?_)⟩
      · have h0 : d = 0 := V.int.inj (of_decide_eq_true h1)
        refine ⟨.int (j : Nat), rfl, _, e3, ?_, samePut s3 nD, ?_⟩
        · rw [List.length_map]; exact small (Nat.le_trans (sel_len ..) (by omega))
        · rw [upd_same, hs, h0, List.map_append]; rfl
      · have h0 : d ≠ 0 := fun z => h1 (decide_eq_true (by rw [z]))
        refine ⟨s3, ?_⟩
        rw [e3, hs, if_neg (by simpa using h0), List.append_nil]
    · rintro H2 ⟨s2, e2⟩
      rw [List.length_map, rFre_len] at e2
      exact ⟨D, _, rfl, .inl ⟨SqL.of e2, fun p np => q _ _ ((s1.trans s2).trans (sameNew np)) (dI_sq (SqT.of upd_same))⟩⟩
theorem ok_cro {f fM : Addr} {fd fdM : FuncData} {k : Nat} (F : Fun K "crowded_posts" "crowded_posts" sCro f fd)
    (FM : Fun K "excesses" "excesses" sExc fM fdM) (bM : Binds K fdM ["instance"] []) (gM : mg "excesses" = some (.ref fM)) (GM : FnOk P w K mg base CX0 2 fM fdM ["instance"] (spVec K rExc))
    (mt : mg "tuple" = none) (me : mg "enumerate" = none) : FnOk P w K mg base CX0 (2 + k + 1) f fd ["instance"] (spVec K rCro) := by
  refine F.ok scCro (fun vs H Q E h => ?_) (fun cdv A outer s H vs Q E hr h => ?_)
  · obtain ⟨i, cs, gs, rfl, _⟩ := h; rfl
  · obtain ⟨i, cs, gs, rfl, hI, ok, q⟩ := h
    refine ⟨_, pss_one (ps_ret (pe_callTy call_tuple_of (by rfl) mt (by decide +kernel) (pa_cons
        (pe_lc (own := [("post", 1), ("excess", 2)]) (g := gTup K 2 (gCons (gName 1) (gCons (gName 2) gNil))) (tt := tTest (tOp (rI0 fun i j => .bl (decide (j < i))) (tVar 2) (tC (.int 0)))) (te := tVar 1) rfl scCro.nd
          (pi_enumT (by rfl) me (pa_cons (pe_call GM (hr.mono (by omega)) (by rfl) gM FM.kp bM .nil pass0 (pa_cons (pv 0) pa_nil)) pa_nil)) (blkOk_by (N := ["instance", "post", "excess"]) (sc := defScope sCro) (by decide +kernel))
          (fun _ _ _ _ _ => pg_tup rfl (pgs_cons (pg_name (i := 1) scCro.nd rfl (.inl rfl)) (pgs_cons (pg_name (i := 2) scCro.nd rfl (.inl rfl)) pgs_nil)))
          (fun _ _ _ _ _ => pts_one (pt_cmpR op_gt (pv 2) pe_int (nomark _)))
          (fun _ _ _ _ _ => pv 1)) pa_nil))), ?_⟩
    have h6 := ok.c6
    refine ⟨.ref i, rfl, i, cs, gs, rfl, hI, ok, fun H1 dm s1 hdm => ?_⟩
    have hD := sq_dI hdm
    refine ⟨dm, _, rfl, hD, fun D nD => lc_it (walk_enumT (K := K) (a := dm) (xs := (rExc cs gs).map V.int))
      (fun j H2 => Same H1 H2 ∧ H2 D = some (.lst ((sel (fun x => decide (0 < x)) (rExc cs gs) j).map V.int))) ⟨sameNew nD, upd_same⟩ (fun j H2 _ h2 => (TupK.of h2.1).sq hD) ?_ ?_⟩
    · rintro j v H2 H3 hlt ⟨s2, e2⟩ ⟨T, x, y, rfl, nT, rfl, hx, hy⟩
      have hx' : some (V.int (j : Nat)) = some x := hx
      cases hx'
      have hy' : ((rExc cs gs).map V.int)[j]? = some y := hy
      rw [List.getElem?_map] at hy'
      obtain ⟨d, hdj, rfl⟩ := Option.map_eq_some_iff.mp hy'
      have hjl : j < cs.length := by have := (List.getElem?_eq_some_iff.mp hdj).1; rw [rExc_len] at this; exact this
      have hs := sel_succ (fun x => decide (0 < x)) (rExc cs gs) hdj
      have e3 := upNew (o := .tup [.int (j : Nat), .int d]) nT e2
      have s3 := s2.trans (sameNew (o := .tup [.int (j : Nat), .int d]) nT)
      refine ⟨T, _, rfl, SqT.of upd_same, rfl, _, _, rfl, _, _, rfl, rfl, rfl, .int d, rfl, _, _, rfl, rfl, _, rfl, ite2 (fun h1 => ?_) (fun h1 => ?_)⟩
      · have h0 : 0 < d := of_decide_eq_true h1
        refine ⟨.int (j : Nat), rfl, _, e3, ?_, samePut s3 nD, ?_⟩
        · rw [List.length_map]; exact small (Nat.le_trans (sel_len ..) (by omega))
        · rw [upd_same, hs, if_pos (by simpa using h0), List.map_append]; rfl
      · have h0 : ¬ 0 < d := fun z => h1 (decide_eq_true z)
        refine ⟨s3, ?_⟩
        rw [e3, hs, if_neg (by simpa using h0), List.append_nil]
    · rintro H2 ⟨s2, e2⟩
      rw [List.length_map, rExc_len] at e2
      exact ⟨D, _, rfl, .inl ⟨SqL.of e2, fun p np => q _ _ ((s1.trans s2).trans (sameNew np)) (dI_sq (SqT.of upd_same))⟩⟩
def spRes (K : PySem.W.Frag) : Sp := fun vs H Q _ => ∃ (i : Addr) (gi : Nat) (cs : List Int) (gs : List Gp) (g : Gp), vs = [.ref i, .int gi] ∧ Dp K H (.ref i) (dInst cs gs) ∧ InsOk cs gs ∧ gs[gi]? = some g ∧
  ∀ H', Same H H' → Q (.int (resOf g.1 (rCla cs gs))) H'
theorem ok_res {f fM : Addr} {fd fdM : FuncData} {k : Nat} (F : Fun K "reserve_option" "reserve_option" sRes f fd)
    (FM : Fun K "claimed_posts" "claimed_posts" sCla fM fdM) (bM : Binds K fdM ["instance"] []) (gM : mg "claimed_posts" = some (.ref fM)) (GM : FnOk P w K mg base CX0 3 fM fdM ["instance"] (spVec K rCla))
    (mr : mg "range" = none) (ml : mg "len" = none) : FnOk P w K mg base CX0 (3 + k + 1) f fd ["instance", "group"] (spRes K) := by
  refine F.ok scRes (fun vs H Q E h => ?_) (fun cdv A outer s H vs Q E hr h => ?_)
  · obtain ⟨i, gi, cs, gs, g, rfl, _⟩ := h; rfl
  · obtain ⟨i, gi, cs, gs, g, rfl, hI, ok, hg, q⟩ := h
    refine ⟨_, pss_cons (ps_set (i := 2) scRes.nd rfl (.inl rfl) (pe_ix ix_tup (pe_ix ix_tup (pe_ix ix_tup (pv 0) pe_int (fun _ _ => rfl)) (pv 1) (fun _ _ => rfl)) pe_int (fun _ _ => rfl)))
      (pss_cons (ps_set (i := 3) scRes.nd rfl (.inl rfl) (pe_call GM (hr.mono (by omega)) (by rfl) gM FM.kp bM .nil pass0 (pa_cons (pv 0) pa_nil)))
      (pss_cons (ps_for PassesOwn.never rfl (pi_range2 (by rfl) mr (pa_cons pe_int (pa_cons (pe_callB call_len_seq (by rfl) ml PySem.boot_len (pa_cons (pv 2) pa_nil)) pa_nil))) (pg_name (i := 4) scRes.nd rfl (.inl rfl))
        (pss_one (ps_if (pt_cmpR op_notIn_seq (pe_ix ix_tup (pv 2) (pv 4) (fun _ _ => rfl)) (pv 3) rfl) (pss_one (ps_ret (pv 4))) pss_nil)))
      (pss_one (ps_ret (pe_callB call_len_seq (by rfl) ml PySem.boot_len (pa_cons (pv 2) pa_nil)))))), ?_⟩
    obtain ⟨_, ca, ga, xs, e, hi, hc, hgt, hgs⟩ := inst_open hI
    cases e
    obtain ⟨gA, pA, hx, hG, hP⟩ := grp_at hgs hg
    have hgl := (ok.gp g (List.mem_of_getElem? hg)).1
    refine ⟨.ref i, rfl, i, _, 1, .ref ga, rfl, rfl, hi, atI_nat (j := 1) rfl, .int gi, rfl, ga, _, _, _, rfl, rfl, hgt, atI_nat hx, gA, _, 0, .ref pA, rfl, rfl, hG, atI_nat (j := 0) rfl, ?_⟩
    refine ⟨.ref i, rfl, i, cs, gs, rfl, hI, ok, fun H1 cl s1 hcl => ?_⟩
    have hC := sq_dI hcl
    have hP1 := (TupK.of s1).sq hP
    refine ⟨.ref pA, rfl, pA, _, rfl, .inr hP1, 1, _, rfl, ⟨by omega, by omega, by omega, by rw [List.length_map]; omega⟩, for_it (walk_range (lo := 1) (n := (((List.map V.int g.1).length : Int) - 1).toNat))
      (fun j σ H2 => ∃ y4, σ = [some (.ref i), some (.int gi), some (.ref pA), some (.ref cl), y4] ∧ H2 = H1 ∧ ∀ k, 1 ≤ k → k < 1 + j → isFree g.1 (rCla cs gs) k = false)
      ⟨none, rfl, rfl, fun k h1 h2 => by omega⟩ (fun _ _ _ _ _ => trivial) ?_ ?_⟩
    · rintro j v σ H2 H3 hlt ⟨y4, rfl, rfl, hno⟩ ⟨rfl, rfl⟩
      rw [List.length_map] at hlt
      have hj1 : 1 + j < g.1.length := by omega
      have e1 : (1 : Int) + (j : Nat) = ((1 + j : Nat) : Int) := by omega
      have hpv : (g.1.map V.int)[1 + j]? = some (.int g.1[1 + j]) := by rw [List.getElem?_map, List.getElem?_eq_getElem hj1]; rfl
      dsimp only
      rw [e1]
      refine ⟨.ref pA, rfl, .int ((1 + j : Nat) : Int), rfl, pA, _, _, _, rfl, rfl, hP1, atI_nat hpv, .ref cl, rfl, cl, _, rfl, .inr hC, rfl, flat_ints _, _, rfl, ?_⟩
      have hfr : isFree g.1 (rCla cs gs) (1 + j) = !(inV (.int g.1[1 + j]) ((rCla cs gs).map V.int)) := by
        unfold isFree
        rw [inV_ints, List.getD_eq_getElem?_getD, List.getElem?_eq_getElem hj1]; rfl
      refine ite2 (fun h1 => ?_) (fun h1 => ?_)
      · have hf : isFree g.1 (rCla cs gs) (1 + j) = true := by rw [hfr]; exact h1
        have hr : resOf g.1 (rCla cs gs) = 1 + j := by
          unfold resOf
          have : (List.range' 1 (g.1.length - 1)).find? (isFree g.1 (rCla cs gs)) = some (1 + j) := by
            rw [List.find?_range'_eq_some]
            refine ⟨hf, by rw [List.mem_range'_1]; omega, fun k h1 h2 => by rw [hno k h1 h2]; rfl⟩
          rw [this]; rfl
        have := q _ s1
        rw [hr] at this
        exact ⟨_, rfl, this⟩
      · have hf : isFree g.1 (rCla cs gs) (1 + j) = false := by rw [hfr]; exact Bool.eq_false_iff.mpr h1
        refine ⟨_, rfl, rfl, fun k h1 h2 => ?_⟩
        rcases Nat.lt_or_ge k (1 + j) with h | h
        · exact hno k h1 h
        · have : k = 1 + j := by omega
          rw [this]; exact hf
    · rintro σ H2 ⟨y4, rfl, rfl, hno⟩
      rw [List.length_map] at hno
      have hr : resOf g.1 (rCla cs gs) = g.1.length := by
        unfold resOf
        have : (List.range' 1 (g.1.length - 1)).find? (isFree g.1 (rCla cs gs)) = none := by
          rw [List.find?_range'_eq_none]
          intro k h1 h2
          rw [hno k h1 (by omega)]; rfl
        rw [this]; rfl
      have := q _ s1
      rw [hr] at this
      refine ⟨.ref pA, rfl, pA, _, rfl, .inr hP1, ?_⟩
      rw [List.length_map]
      exact this
end
end Pv

namespace Pv
open PySem PySem.Spec PyProof.Rows L2
abbrev sGr : Stmt := topS 20
theorem scGr : FnScope ["instance", "crowded", "routes", "group", "first"] ["instance"] (defScope sGr) := ⟨rfl, rfl, rfl, by decide +kernel, rfl, by decide +kernel, by decide +kernel⟩
/-! routes -/
section
variable {P : Program} {w : World} {K : PySem.W.Frag} {mg : Str → Option Value} {base : Heap}
def spGr (K : PySem.W.Frag) : Sp := fun vs H Q _ => ∃ (i : Addr) (cs : List Int) (gs : List Gp), vs = [.ref i] ∧ Dp K H (.ref i) (dInst cs gs) ∧ InsOk cs gs ∧
  ∀ H' p vs, Same H H' → H' p = some (.lst vs) → RtAll K H' vs (gs.map (routeOf cs gs)) → H p = none → Q (.ref p) H'
set_option maxHeartbeats 2000000 in
theorem ok_Gr {f fCr fOp fRe : Addr} {fd fdCr fdOp fdRe : FuncData} (F : Fun K "group_routes" "group_routes" sGr f fd)
    (FCr : Fun K "crowded_posts" "crowded_posts" sCro fCr fdCr) (bCr : Binds K fdCr ["instance"] []) (gCr : mg "crowded_posts" = some (.ref fCr)) (GCr : FnOk P w K mg base CX0 3 fCr fdCr ["instance"] (spVec K rCro))
    (FOp : Fun K "option_post" "option_post" sOpt fOp fdOp) (bOp : Binds K fdOp ["instance", "group", "option"] []) (gOp : mg "option_post" = some (.ref fOp)) (GOp : FnOk P w K mg base CX0 1 fOp fdOp ["instance", "group", "option"] (spOpt K))
    (FRe : Fun K "reserve_option" "reserve_option" sRes fRe fdRe) (bRe : Binds K fdRe ["instance", "group"] []) (gRe : mg "reserve_option" = some (.ref fRe)) (GRe : FnOk P w K mg base CX0 4 fRe fdRe ["instance", "group"] (spRes K))
    (m_len : mg "len" = none) (m_range : mg "range" = none) :
    FnOk P w K mg base CX0 5 f fd ["instance"] (spGr K) := by
  refine F.ok scGr (fun vs H Q E h => ?_) (fun cdv A outer s H vs Q E hr h => ?_)
  · obtain ⟨i, cs, gs, rfl, _⟩ := h; rfl
  · obtain ⟨i, cs, gs, rfl, hI, ok, q⟩ := h
    refine ⟨_, pss_cons (ps_set (i := 1) scGr.nd rfl (.inl rfl) (pe_call GCr (hr.mono (by omega)) (by rfl) gCr FCr.kp bCr .nil pass0 (pa_cons (pv 0) pa_nil)))
      (pss_cons (ps_set (i := 2) scGr.nd rfl (.inl rfl) (pe_lst (pa_nil)))
      (pss_cons (ps_for PassesOwn.never rfl (pi_range1 (by rfl) m_range (pa_cons (pe_callB call_lenQ (by rfl) m_len PySem.boot_len (pa_cons (pe_ix ix_tup (pv 0) (pe_int) (fun _ _ => rfl)) pa_nil)) pa_nil)) (pg_name (i := 3) scGr.nd rfl (.inl rfl))
        (pss_cons (ps_set (i := 4) scGr.nd rfl (.inl rfl) (pe_call GOp (hr.mono (by omega)) (by rfl) gOp FOp.kp bOp .nil pass0 (pa_cons (pv 0) (pa_cons (pv 3) (pa_cons (pe_int) pa_nil)))))
        (pss_one (ps_if (pt_cmpR op_in_seq (pv 4) (pv 1) (by rfl))
          (pss_one (ps_expr (pe_bm PySem.F.plainAttrs_list PySem.F.slot_list_append PySem.F.type_list_append mt_append (pv 2) (pa_cons (pe_tup (pa_cons (pv 4) (pa_cons (pe_call GOp (hr.mono (by omega)) (by rfl) gOp FOp.kp bOp .nil pass0 (pa_cons (pv 0) (pa_cons (pv 3) (pa_cons (pe_call GRe (hr.mono (by omega)) (by rfl) gRe FRe.kp bRe .nil pass0 (pa_cons (pv 0) (pa_cons (pv 3) pa_nil))) pa_nil)))) pa_nil))) pa_nil)))) (pss_one (ps_expr (pe_bm PySem.F.plainAttrs_list PySem.F.slot_list_append PySem.F.type_list_append mt_append (pv 2) (pa_cons (pe_non) pa_nil))))))))
      (pss_one (ps_ret (pv 2))))), ?_⟩
    obtain ⟨_, ca, ga, xs, e, hi, hc, hgt, hgs⟩ := inst_open hI
    cases e
    have lx := DpAll.len hgs
    rw [List.length_map] at lx
    have h10 := ok.g10
    refine ⟨.ref i, rfl, i, cs, gs, rfl, hI, ok, fun H1 Cr s1 hCr => ⟨Nat.zero_le _, fun Ro nRo => ?_⟩⟩
    obtain ⟨_, e, hCr⟩ := dI_ref hCr
    cases e
    have s2 := s1.trans (sameNew (o := .lst []) nRo)
    have fRo : H Ro = none := by
      cases e : H Ro with
      | none => rfl
      | some o => have := s1 _ _ e; rw [nRo] at this; cases this
    refine ⟨.ref i, rfl, i, _, 1, .ref ga, rfl, rfl, (TupK.of s2).sq hi, atI_nat (j := 1) rfl, ga, _, rfl, .inr ((TupK.of s2).sq hgt), _, rfl, by omega, by omega, for_it (walk_range (lo := 0) (n := ((xs.length : Nat) : Int).toNat))
      (fun j σ H3 => ∃ (y3 y4 : Option V) (vs : List V), σ = [some (.ref i), some (.ref Cr), some (.ref Ro), y3, y4] ∧ Same H1 H3 ∧ H3 Ro = some (.lst vs) ∧ RtAll K H3 vs ((gs.take j).map (routeOf cs gs)))
      ⟨none, none, [], rfl, sameNew nRo, upd_same, by simp [RtAll]⟩ (fun _ _ _ _ _ => trivial) ?_ ?_⟩
    · rintro j v σ H3 H4 hlt ⟨y3, y4, vs, rfl, s3, e3, hv3⟩ ⟨rfl, rfl⟩
      have hj : j < gs.length := by omega
      have hg : gs[j]? = some gs[j] := List.getElem?_eq_getElem hj
      have e0 : (0 : Int) + (j : Nat) = ((j : Nat) : Int) := by omega
      have sH := s1.trans s3
      have hI3 := (TupK.of sH).dp _ _ (to_dInst _ _) hI
      have hlv : vs.length = j := by rw [hv3.1, List.length_map, List.length_take]; omega
      dsimp only
      rw [e0]
      refine ⟨.ref i, rfl, .int (j : Nat), rfl, i, j, 0, cs, gs, gs[j], rfl, hI3, hg, Nat.zero_le _, ?_⟩
      refine ⟨_, rfl, .ref Cr, rfl, Cr, _, rfl, .inr ((TupK.of s3).sq hCr), ?_, flat_ints _, _, rfl, ?_⟩
      · unfold optV; split <;> rfl
      have esn : (gs.take (j + 1)).map (routeOf cs gs) = (gs.take j).map (routeOf cs gs) ++ [routeOf cs gs gs[j]] := by rw [take_snoc hg, List.map_append]; rfl
      have hcr := inV_opt gs[j].1 (rCro cs gs)
      refine ite2 (fun h1 => ?_) (fun h1 => ?_)
      · rw [if_neg (by decide), hcr] at h1
        obtain ⟨p, ps, hps, hpc⟩ : ∃ p ps, gs[j].1 = p :: ps ∧ (rCro cs gs).contains p = true := by
          cases e : gs[j].1 with
          | nil => rw [e] at h1; simp at h1
          | cons p ps => rw [e] at h1; exact ⟨p, ps, rfl, h1⟩
        have hr : routeOf cs gs gs[j] = some (p, gs[j].1[resOf gs[j].1 (rCla cs gs)]?) := by unfold routeOf; rw [hps]; simp only; rw [if_pos hpc]
        have ho : optV gs[j].1 0 = .int p := by unfold optV; rw [hps]; rfl
        rw [ho]
        refine ⟨.ref Ro, rfl, .inl ⟨rfl, _, SqL.of e3⟩, .int p, rfl, .ref i, rfl, .int (j : Nat), rfl, .ref i, rfl, .int (j : Nat), rfl, i, j, cs, gs, gs[j], rfl, hI3, ok, hg, fun H5 s5 => ?_⟩
        refine ⟨i, j, resOf gs[j].1 (rCla cs gs), cs, gs, gs[j], rfl, (TupK.of s5).dp _ _ (to_dInst _ _) hI3, hg, resOf_le _ _, (show (2 : Nat) ≤ sizeLine by decide), fun T nT => ?_⟩
        have sT := sameNew (o := .tup [.int p, optV gs[j].1 (resOf gs[j].1 (rCla cs gs))]) nT
        have e6 := (s5.trans sT) _ _ e3
        have tkp : TupK _ (upd (upd H5 T (.tup [.int p, optV gs[j].1 (resOf gs[j].1 (rCla cs gs))])) Ro (.lst (vs ++ [.ref T]))) := TupK.put e6
        refine ⟨Ro, vs, _, rfl, rfl, e6, by rw [hlv]; exact small (by omega), _, _, vs ++ [.ref T], rfl, samePut ((s3.trans s5).trans sT) nRo, upd_same, ?_⟩
        rw [esn, hr]
        refine RtAll.snoc (hv3.tk ((TupK.of (s5.trans sT)).trans tkp)) ⟨T, rfl, ?_⟩
        rw [← optV_oV]
        exact tkp.sq (SqT.of upd_same)
      · rw [if_neg (by decide), hcr] at h1
        have hr : routeOf cs gs gs[j] = none := by
          unfold routeOf
          cases e : gs[j].1 with
          | nil => rfl
          | cons p ps => rw [e] at h1; simp only; rw [if_neg h1]
        refine ⟨.ref Ro, rfl, .inl ⟨rfl, _, SqL.of e3⟩, Ro, vs, _, rfl, rfl, e3, by rw [hlv]; exact small (by omega), _, _, vs ++ [.non], rfl, samePut s3 nRo, upd_same, ?_⟩
        rw [esn, hr]
        exact RtAll.snoc (hv3.tk (TupK.put e3)) rfl
    rintro σ H3 ⟨y3, y4, vs, rfl, s3, e3, hv3⟩
    rw [lx, Int.toNat_natCast, List.take_length] at hv3
    exact ⟨_, rfl, q _ Ro vs (s1.trans s3) e3 hv3 fRo⟩
end
end Pv

namespace Pv
open PySem PySem.Spec PyProof.Rows L2
abbrev sFa : Stmt := topS 37
theorem scFa : FnScope ["_law_instance", "_law_capacities", "_law_groups", "_law_demand", "_law_order", "_law_count", "_law_post", "_law_excess", "_law_free", "_law_crowded", "_law_rows", "_law_group", "_law_one", "_law_other"] ["_law_instance"] (defScope sFa) := ⟨rfl, rfl, rfl, by decide +kernel, rfl, by decide +kernel, by decide +kernel⟩
section
variable {P : Program} {w : World} {K : PySem.W.Frag} {mg : Str → Option Value} {base : Heap}
def RowT (K : PySem.W.Frag) (H : Hp) (v : V) (r : Rw) : Prop := ∃ T, v = .ref T ∧ SqT K H T [.int (r.1 : Nat), .int r.2.1, oV r.2.2.1]
theorem RowT.tk {H H' : Hp} {v : V} {r : Rw} (h : RowT K H v r) (t : TupK H H') : RowT K H' v r := by
  obtain ⟨T, e, a⟩ := h
  exact ⟨T, e, t.sq a⟩
structure Fct (K : PySem.W.Frag) (cs : List Int) (gs : List Gp) (H : Hp) (p d e f c w ca : Addr) (rs : List V) : Prop where
  eP : H p = some (.lst [.ref d, .ref e, .ref f, .ref c, .ref w, .ref ca])
  eD : H d = some (.lst ((rDem cs gs).map V.int))
  eX : H e = some (.lst ((rExc cs gs).map V.int))
  eF : H f = some (.lst ((rFre cs gs).map V.int))
  eC : H c = some (.lst ((rCro cs gs).map V.int))
  eW : H w = some (.lst rs)
  rw : Rl (RowT K H) rs (rowsTo cs gs gs.length)
  ec : SqT K H ca (cs.map V.int)
theorem Fct.same {cs : List Int} {gs : List Gp} {H H' : Hp} {p d e f c w ca : Addr} {rs : List V} (h : Fct K cs gs H p d e f c w ca rs) (s : Same H H') : Fct K cs gs H' p d e f c w ca rs :=
  ⟨s _ _ h.eP, s _ _ h.eD, s _ _ h.eX, s _ _ h.eF, s _ _ h.eC, s _ _ h.eW, h.rw.mono fun _ _ x => x.tk (TupK.of s), sqS s h.ec⟩
theorem sel_fm (f : Int → Bool) (ls : List Int) (n : Nat) : (upTo n).filterMap (fun q => if f (ls.getD q.toNat 0) = true then some (V.int q) else none) = (sel f ls n).map V.int := by
  unfold upTo sel
  rw [List.filterMap_map]
  induction List.range n with
  | nil => rfl
  | cons i l ih =>
    rw [List.filterMap_cons, List.filter_cons]
    simp only [Function.comp, Int.ofNat_eq_natCast, Int.toNat_natCast] at ih ⊢
    by_cases e : f (ls.getD i 0) = true
    · rw [if_pos e, if_pos e]; simp only [List.map_cons]; rw [ih]
    · rw [if_neg e, if_neg e]; exact ih
theorem find_fm (P : Int → Bool) (ps : List Int) : ∀ (m k : Nat), k + m = ps.length → ((ps.drop k).filterMap (fun q => if P q = true then some (V.int q) else none) ++ [V.non])[0]? = some (oV (ps[((List.range' k m).find? (fun i => P (ps.getD i 0))).getD ps.length]?))
  | 0, k, h => by
    rw [List.drop_eq_nil_of_le (by omega)]
    show some V.non = some (oV ps[ps.length]?)
    rw [List.getElem?_eq_none (Nat.le_refl _)]; rfl
  | m + 1, k, h => by
    have hk : k < ps.length := by omega
    rw [List.drop_eq_getElem_cons hk, List.range'_succ, List.find?_cons, List.filterMap_cons]
    have e : ps.getD k 0 = ps[k] := by rw [List.getD_eq_getElem?_getD, List.getElem?_eq_getElem hk]; rfl
    rw [e]
    cases hp : P ps[k] with
    | true =>
      simp only [if_true, Option.getD_some]
      rw [List.getElem?_eq_getElem hk]; rfl
    | false =>
      simp only [Bool.false_eq_true, if_false]
      exact find_fm P ps m (k + 1) (by omega)
theorem freeZ {H H' : Hp} {a : Addr} (z : Same H H') (n : H' a = none) : H a = none := by
  cases e : H a with
  | none => rfl
  | some o => rw [z _ _ e] at n; cases n
theorem upTo_at {n j : Nat} (h : j < n) : (upTo n)[j]? = some (j : Int) := by simp [upTo, h]
theorem fm_cong {α β : Type} {f g : α → Option β} : ∀ {l : List α}, (∀ x ∈ l, f x = g x) → l.filterMap f = l.filterMap g
  | [], _ => rfl
  | x :: l, h => by rw [List.filterMap_cons, List.filterMap_cons, h x List.mem_cons_self, fm_cong fun y hy => h y (List.mem_cons_of_mem _ hy)]
theorem res_fm {cs : List Int} {gs : List Gp} {ps : List Int} (hb : ∀ p ∈ ps, 0 ≤ p ∧ p < (cs.length : Int)) (hl : 1 ≤ ps.length) : ((ps.drop 1).filterMap (fun q => if (rFre cs gs).getD q.toNat 0 > 0 then some (V.int q) else none) ++ [V.non])[0]? = some (oV ps[resOf ps (rCla cs gs)]?) := by
  have e1 : ∀ q ∈ ps, ((rFre cs gs).getD q.toNat 0 > 0 ↔ (!(rCla cs gs).contains q) = true) := fun q hq => by
    have h := hb q hq
    obtain ⟨m, rfl⟩ : ∃ m : Nat, q = (m : Int) := ⟨q.toNat, by omega⟩
    rw [Int.toNat_natCast, fre_getD (by omega), cla_mem h]
    unfold mx
    by_cases z : spOf cs gs (m : Int) ≤ 0
    · rw [if_neg (by omega), decide_eq_true z]; simp
    · rw [if_pos (by omega), decide_eq_false z]; simp; omega
  have e2 : (ps.drop 1).filterMap (fun q => if (rFre cs gs).getD q.toNat 0 > 0 then some (V.int q) else none) = (ps.drop 1).filterMap (fun q => if (fun q => !(rCla cs gs).contains q) q = true then some (V.int q) else none) := by
    refine fm_cong fun q hq => ?_
    have := e1 q (List.mem_of_mem_drop hq)
    by_cases z : (rFre cs gs).getD q.toNat 0 > 0
    · rw [if_pos z, if_pos (this.mp z)]
    · rw [if_neg z, if_neg (fun y => z (this.mpr y))]
  rw [e2, find_fm _ ps (ps.length - 1) 1 (by omega)]
  rfl
theorem dAdd_cons {ls : List Int} {g : Gp} {p : Nat} {ps : List Int} (e : g.1 = (p : Int) :: ps) (h : p < ls.length) : dAdd ls g = ls.set p (ls[p] + g.2) := by
  unfold dAdd addAt
  rw [e]
  simp only [Int.toNat_natCast]
  rw [List.getD_eq_getElem?_getD, List.getElem?_eq_getElem h]; rfl
theorem flat_intv {n : List Int} {F : Int → Option V} (hF : ∀ x v, F x = some v → flatV v = true) : (n.filterMap F).all flatV = true := by
  rw [List.all_eq_true]
  intro v hv
  obtain ⟨x, _, e⟩ := List.mem_filterMap.mp hv
  exact hF x v e
def spFa (K : PySem.W.Frag) : Sp := fun vs H Q _ => ∃ (i : Addr) (cs : List Int) (gs : List Gp), vs = [.ref i] ∧ Dp K H (.ref i) (dInst cs gs) ∧ InsOk cs gs ∧
  ∀ (H' : Hp) (p d e f c w ca : Addr) (rs : List V), Same H H' → H p = none → (H d = none ∧ H e = none ∧ H f = none) → Fct K cs gs H' p d e f c w ca rs → Q (.ref p) H'
set_option maxHeartbeats 8000000 in
theorem ok_Fa {f : Addr} {fd : FuncData} (F : Fun K "_law_facts" "_law_facts" sFa f fd)
    (m_len : mg "len" = none) (m_zip : mg "zip" = none) (m_max : mg "max" = none) (m_range : mg "range" = none) :
    FnOk P w K mg base CX0 1 f fd ["_law_instance"] (spFa K) := by
  refine F.ok scFa (fun vs H Q E h => ?_) (fun cdv A outer s H vs Q E hr h => ?_)
  · obtain ⟨i, cs, gs, rfl, _⟩ := h; rfl
  · obtain ⟨i, cs, gs, rfl, hI, ok, q⟩ := h
    have hcs := ok.c6
    have hgs10 := ok.g10
    have hin : ∀ g ∈ gs, g.1.length ≤ 6 ∧ ∀ p ∈ g.1, 0 ≤ p ∧ p < (cs.length : Int) := fun g hg => ⟨(ok.gp g hg).1, (ok.gp g hg).2.1⟩
    have hu64 : (A.deeper (envOfC "_law_facts" (defScope sFa) s.heap.objs.size f cdv)).units + 64 < cLine := by have := hr.un; omega
    have hu0 : (A.deeper (envOfC "_law_facts" (defScope sFa) s.heap.objs.size f cdv)).units < cLine := by omega
    refine ⟨_, pss_cons (ps_asg (pv 0) (pg_tup rfl (pgs_cons (pg_name (i := 1) scFa.nd rfl (.inl rfl)) (pgs_cons (pg_name (i := 2) scFa.nd rfl (.inl rfl)) pgs_nil))))
      (pss_cons (ps_set (i := 3) scFa.nd rfl (.inl rfl) (pe_op op_rep (pe_lst (pa_cons (pe_int) pa_nil)) (pe_callB call_lenQ (by rfl) m_len PySem.boot_len (pa_cons (pv 1) pa_nil))))
      (pss_cons (ps_for PassesOwn.never rfl (pi_tup (pv 2)) (pg_tup rfl (pgs_cons (pg_name (i := 4) scFa.nd rfl (.inl rfl)) (pgs_cons (pg_name (i := 5) scFa.nd rfl (.inl rfl)) pgs_nil)))
        (pss_one (ps_for PassesOwn.never rfl (pi_tup (pe_slice sl_tupA (pv 4) po_none (po_some (pe_int)))) (pg_name (i := 6) scFa.nd rfl (.inl rfl))
          (pss_one (ps_asg (pe_op op_add (pe_ix ix_list (pv 3) (pv 6) (fun _ _ => rfl)) (pv 5)) (pg_sub (pv 3) (pv 6) set_list))))))
      (pss_cons (ps_set (i := 7) scFa.nd rfl (.inr rfl) (pe_lc (own := [("_law_one", 12), ("_law_other", 13)]) (g := gTup K 2 (gCons (gName 12) (gCons (gName 13) gNil))) (tt := tYes) (te := tCB (fun xs H Q => ∃ i j, xs = [.int i, .int j] ∧ Q (.int (if j > i then j else i)) H) (tCons (tC (.int 0)) (tCons (tOp (rI0 fun i j => .int (i - j)) (tVar 12) (tVar 13)) tNil))) rfl scFa.nd (pi_zipM (by rfl) m_zip (pa_cons (pv 3) (pa_cons (pv 1) pa_nil))) (blkOk_by (N := ["_law_instance", "_law_capacities", "_law_groups", "_law_demand", "_law_order", "_law_count", "_law_post", "_law_excess", "_law_free", "_law_crowded", "_law_rows", "_law_group", "_law_one", "_law_other"]) (sc := defScope sFa) (by decide +kernel)) (fun _ _ _ _ _ => pg_tup rfl (pgs_cons (pg_name (i := 12) scFa.nd rfl (.inl rfl)) (pgs_cons (pg_name (i := 13) scFa.nd rfl (.inl rfl)) pgs_nil))) (fun _ _ _ _ _ => pts_nil) (fun _ _ _ _ _ => pe_callB (call_max2 rfl) (by rfl) m_max (by decide +kernel) (pa_cons (pe_int) (pa_cons (pe_op op_sub (pv 12) (pv 13)) pa_nil)))))
      (pss_cons (ps_set (i := 8) scFa.nd rfl (.inr rfl) (pe_lc (own := [("_law_one", 12), ("_law_other", 13)]) (g := gTup K 2 (gCons (gName 12) (gCons (gName 13) gNil))) (tt := tYes) (te := tCB (fun xs H Q => ∃ i j, xs = [.int i, .int j] ∧ Q (.int (if j > i then j else i)) H) (tCons (tC (.int 0)) (tCons (tOp (rI0 fun i j => .int (i - j)) (tVar 13) (tVar 12)) tNil))) rfl scFa.nd (pi_zipM (by rfl) m_zip (pa_cons (pv 3) (pa_cons (pv 1) pa_nil))) (blkOk_by (N := ["_law_instance", "_law_capacities", "_law_groups", "_law_demand", "_law_order", "_law_count", "_law_post", "_law_excess", "_law_free", "_law_crowded", "_law_rows", "_law_group", "_law_one", "_law_other"]) (sc := defScope sFa) (by decide +kernel)) (fun _ _ _ _ _ => pg_tup rfl (pgs_cons (pg_name (i := 12) scFa.nd rfl (.inl rfl)) (pgs_cons (pg_name (i := 13) scFa.nd rfl (.inl rfl)) pgs_nil))) (fun _ _ _ _ _ => pts_nil) (fun _ _ _ _ _ => pe_callB (call_max2 rfl) (by rfl) m_max (by decide +kernel) (pa_cons (pe_int) (pa_cons (pe_op op_sub (pv 13) (pv 12)) pa_nil)))))
      (pss_cons (ps_setLc (i := 9) (own := [("_law_post", 6)]) (g := gName 6) (tt := tTest (tOp (rI0 fun i j => .bl (decide (j < i))) (tOp (rIxL K) (tVar 7) (tVar 6)) (tC (.int 0)))) (te := tVar 6) rfl scFa.nd rfl rfl (sw_true rfl rfl rfl (by decide +kernel)) (pi_range1 (by rfl) m_range (pa_cons (pe_callB call_lenQ (by rfl) m_len PySem.boot_len (pa_cons (pv 1) pa_nil)) pa_nil)) (blkOk_by (N := ["_law_instance", "_law_capacities", "_law_groups", "_law_demand", "_law_order", "_law_count", "_law_post", "_law_excess", "_law_free", "_law_crowded", "_law_rows", "_law_group", "_law_one", "_law_other"]) (sc := defScope sFa) (by decide +kernel)) (fun _ _ _ _ _ => pg_name (i := 6) scFa.nd rfl (.inl rfl)) (fun _ _ _ _ _ => pts_one (pt_cmpR op_gt (pe_ix ix_list (pv 7) (pv 6) (fun _ _ => rfl)) (pe_int) (nomark _))) (fun _ _ _ _ _ => pv 6))
      (pss_cons (ps_set (i := 10) scFa.nd rfl (.inl rfl) (pe_lst (pa_nil)))
      (pss_cons (ps_for PassesOwn.never rfl (pi_range1 (by rfl) m_range (pa_cons (pe_callB call_lenQ (by rfl) m_len PySem.boot_len (pa_cons (pv 2) pa_nil)) pa_nil)) (pg_name (i := 11) scFa.nd rfl (.inl rfl))
        (pss_cons (ps_set (i := 4) scFa.nd rfl (.inl rfl) (pe_ix ix_tup (pe_ix ix_tup (pv 2) (pv 11) (fun _ _ => rfl)) (pe_int) (fun _ _ => rfl)))
        (pss_one (ps_if (PW.pt (pw_and (pt_cmpR (op_neNilT hu0) (pv 4) (pe_tup (pa_nil)) (nomark _)) (pw_and1 (pt_cmpR op_in_seq (pe_ix ix_tup (pv 4) (pe_int) (fun _ _ => rfl)) (pv 9) (by rfl)))))
          (pss_one (ps_expr (pe_bm PySem.F.plainAttrs_list PySem.F.slot_list_append PySem.F.type_list_append mt_append (pv 10) (pa_cons (pe_tup (pa_cons (pv 11) (pa_cons (pe_ix ix_tup (pv 4) (pe_int) (fun _ _ => rfl)) (pa_cons (pe_ix ix_list (pe_op op_cat (pe_lc (own := [("_law_post", 6)]) (g := gName 6) (tt := tTest (tOp (rI0 fun i j => .bl (decide (j < i))) (tOp (rIxL K) (tVar 8) (tVar 6)) (tC (.int 0)))) (te := tVar 6) rfl scFa.nd (pi_tup (pe_slice sl_tupA (pv 4) (po_some (pe_int)) po_none)) (blkOk_by (N := ["_law_instance", "_law_capacities", "_law_groups", "_law_demand", "_law_order", "_law_count", "_law_post", "_law_excess", "_law_free", "_law_crowded", "_law_rows", "_law_group", "_law_one", "_law_other"]) (sc := defScope sFa) (by decide +kernel)) (fun _ _ _ _ _ => pg_name (i := 6) scFa.nd rfl (.inl rfl)) (fun _ _ _ _ _ => pts_one (pt_cmpR op_gt (pe_ix ix_list (pv 8) (pv 6) (fun _ _ => rfl)) (pe_int) (nomark _))) (fun _ _ _ _ _ => pv 6)) (pe_lst (pa_cons (pe_non) pa_nil))) (pe_int) (fun _ _ => rfl)) pa_nil)))) pa_nil)))) pss_nil))))
      (pss_one (ps_ret (pe_lst (pa_cons (pv 3) (pa_cons (pv 7) (pa_cons (pv 8) (pa_cons (pv 9) (pa_cons (pv 10) (pa_cons (pv 1) pa_nil)))))))))))))))), ?_⟩
    obtain ⟨_, ca, ga, xs, e, hi, hc, hg, hgs⟩ := inst_open hI
    cases e
    have lxs : xs.length = gs.length := by have := DpAll.len hgs; rwa [List.length_map] at this
    have sz := small (n := 100) (by decide)
    refine ⟨.ref i, rfl, i, _, rfl, hi, rfl, _, _, rfl, _, _, rfl, rfl, ?_⟩
    refine ⟨by decide, fun p0 n0 => ⟨.ref ca, rfl, ca, _, rfl, .inr ((TupK.new n0).sq hc), p0, _, _, rfl, rfl, upd_same, by omega, ?_, ?_, fun L nL => ?_⟩⟩
    · rw [List.length_map]; omega
    · rw [List.length_map]; show 1 * _ ≤ sizeLine; have := small (n := cs.length) (by omega); simp; omega
    have fL : H L = none := freeOf nL
    have s1 : Same H (upd (upd H p0 (.lst [.int 0])) L (.lst (List.replicate ((List.map V.int cs).length : Int).toNat [V.int 0]).flatten)) := samePut (sameNew n0) fL
    have eL : (upd (upd H p0 (.lst [.int 0])) L (.lst (List.replicate ((List.map V.int cs).length : Int).toNat [V.int 0]).flatten)) L = some (.lst ((zeros cs.length).map V.int)) := by
      rw [upd_same, zeros_V, List.length_map]; rfl
    generalize upd (upd H p0 (.lst [.int 0])) L (.lst (List.replicate ((List.map V.int cs).length : Int).toNat [V.int 0]).flatten) = H1 at s1 eL ⊢
    -- demand
    refine ⟨.ref ga, rfl, ga, rfl, ⟨_, sqS s1 hg⟩, for_it (walk_tup (K := K) (a := ga) (xs := xs))
      (fun j σ Hj => ∃ (y4 y5 y6 : Option V) (ds : List Int), σ = [some (.ref i), some (.ref ca), some (.ref ga), some (.ref L), y4, y5, y6, none, none, none, none, none, none, none] ∧ Same H Hj ∧ Hj L = some (.lst (ds.map V.int)) ∧ ds = demOf cs.length (gs.take j))
      ⟨none, none, none, zeros cs.length, rfl, s1, eL, rfl⟩ (fun j σ Hj _ h => by obtain ⟨_, _, _, _, _, s, _⟩ := h; exact sqS s hg) ?_ ?_⟩
    · rintro j v σ Hk Hj hlt ⟨y4, y5, y6, ds0, rfl, sj, eD, rfl⟩ ⟨rfl, hx⟩
      have hx : xs[j]? = some v := hx
      obtain ⟨d, hd, hxd⟩ := DpAll.at hgs hx
      rw [List.getElem?_map] at hd
      obtain ⟨g, hgj, rfl⟩ := Option.map_eq_some_iff.mp hd
      obtain ⟨gA, pA, rfl, hG, hP⟩ := grp_ref hxd
      have gp := hin g (List.mem_of_getElem? hgj)
      refine ⟨gA, _, rfl, sqS sj hG, rfl, _, _, rfl, _, _, rfl, rfl, ?_⟩
      refine ⟨.ref pA, rfl, 1, rfl, take_eq (sqS sj hP) 1 (fun H2 b s2 hb => ⟨b, rfl, ⟨_, hb⟩, for_it (walk_tup (K := K) (a := b) (xs := (g.1.map V.int).take 1))
        (fun k σ Hk => ∃ (y6 : Option V) (ds : List Int), σ = [some (.ref i), some (.ref ca), some (.ref ga), some (.ref L), some (.ref pA), some (.int g.2), y6, none, none, none, none, none, none, none] ∧ Same H Hk ∧ TupK H2 Hk ∧ Hk L = some (.lst (ds.map V.int)) ∧ ds = if k = 0 then demOf cs.length (gs.take j) else demOf cs.length (gs.take (j + 1)))
        ⟨_, _, rfl, sj.trans s2, TupK.refl _, s2 _ _ eD, rfl⟩ (fun k σ Hk _ h => by obtain ⟨_, _, _, _, t, _⟩ := h; exact t.sq hb) ?_ ?_⟩)⟩
      · rintro k v σ Hy Hx hltk ⟨y6, ds, rfl, sx, tx, eD, eds⟩ ⟨rfl, hxk⟩
        have hxk : ((g.1.map V.int).take 1)[k]? = some v := hxk
        have hk0 : k = 0 := by
          have h1 := (List.getElem?_eq_some_iff.mp hxk).1
          rw [List.length_take] at h1; omega
        subst hk0
        rw [if_pos rfl] at eds
        have lds : ds.length = cs.length := by rw [eds]; exact demOf_len ..
        obtain ⟨pp, ps, hgg⟩ : ∃ pp ps, g.1 = pp :: ps := by
          cases hgg : g.1 with
          | nil => rw [hgg] at hxk; simp at hxk
          | cons a b => exact ⟨a, b, rfl⟩
        rw [hgg] at hxk
        cases hxk
        have hpp : pp ∈ g.1 := by rw [hgg]; exact List.mem_cons_self
        have hpr := gp.2 pp hpp
        obtain ⟨pn, rfl⟩ : ∃ pn : Nat, pp = pn := ⟨pp.toNat, by omega⟩
        have hpl : pn < ds.length := by omega
        have hcv : (ds.map V.int)[pn]? = some (.int ds[pn]) := by rw [List.getElem?_map, List.getElem?_eq_getElem hpl]; rfl
        refine ⟨.ref L, rfl, .int pn, rfl, L, _, pn, .int ds[pn], rfl, rfl, SqL.of eD, atI_nat hcv, .int g.2, rfl, _, _, rfl, rfl, .ref L, rfl, .int pn, rfl, L, _, _, pn, rfl, rfl, eD, ixN_nat (by rw [List.length_map]; exact hpl), ?_⟩
        exact ⟨_, ds.set pn (ds[pn] + g.2), rfl, samePut sx fL, tx.trans (TupK.put eD), by rw [upd_same, List.map_set], by rw [if_neg (by omega), demOf_snoc hgj]; subst eds; rw [dAdd_cons hgg hpl]⟩
      · rintro σ Hx ⟨y6, ds, rfl, sx, tx, eD, eds⟩
        refine ⟨_, _, _, ds, rfl, sx, eD, ?_⟩
        cases hgg : g.1 with
        | nil =>
          rw [hgg] at eds
          rw [eds, demOf_snoc hgj]
          unfold dAdd; rw [hgg]; rfl
        | cons a b =>
          rw [hgg] at eds
          exact eds
    rintro σ H2 ⟨y4, y5, y6, D, rfl, s2, eD, eDem⟩
    have eDem : D = rDem cs gs := by rw [eDem, lxs, List.take_length]; rfl
    have lD : D.length = cs.length := by rw [eDem, rDem_len]
    have lz : (D.zip cs).length = cs.length := by rw [List.length_zip]; omega
    -- excess
    have zat : ∀ {m : Nat} {x1 y1 : V}, (D.map V.int)[m]? = some x1 → (cs.map V.int)[m]? = some y1 → ∃ a b : Int, x1 = .int a ∧ y1 = .int b ∧ (D.zip cs)[m]? = some (a, b) ∧ m < cs.length := by
      intro m x1 y1 h1 h2
      rw [List.getElem?_map] at h1 h2
      obtain ⟨a, ha, rfl⟩ := Option.map_eq_some_iff.mp h1
      obtain ⟨b, hb, rfl⟩ := Option.map_eq_some_iff.mp h2
      exact ⟨a, b, rfl, rfl, by rw [List.getElem?_zip_eq_some]; exact ⟨ha, hb⟩, (List.getElem?_eq_some_iff.mp hb).1⟩
    refine ⟨.ref L, rfl, .ref ca, rfl, L, ca, _, _, rfl, SqL.of eD, sqS s2 hc, fun Ex nEx => lc_it (walk_zipM (K := K) (a := L) (b := ca) (xs := D.map V.int) (ys := cs.map V.int) rfl) (LcP H2 Ex (D.zip cs) (fun q => some (.int (if q.1 - q.2 > 0 then q.1 - q.2 else 0)))) (.start nEx) (fun m Hm _ h => ⟨SqL.of (h.1 _ _ eD), sqS (s2.trans h.1) hc⟩) ?_ ?_⟩
    · rintro m x Hm Hn hm hL ⟨T, x1, y1, rfl, nT, rfl, hx, hy⟩
      obtain ⟨a, b, rfl, rfl, hz, hml⟩ := zat hx hy
      refine ⟨T, _, rfl, SqT.of upd_same, rfl, _, _, rfl, _, _, rfl, rfl, rfl, ?_⟩
      refine ⟨.int a, rfl, .int b, rfl, _, _, rfl, rfl, _, _, rfl, ?_⟩
      exact hL.yes nEx (sameNew nT) hz rfl (by omega)
    rintro H3 hL
    have eE := hL.done (by rw [List.length_map, List.length_map, lz]; omega)
    rw [show (D.zip cs).filterMap (fun q => some (V.int (if q.1 - q.2 > 0 then q.1 - q.2 else 0))) = (excOf cs D).map V.int by rw [fm_map, ← exc_zip]; rfl] at eE
    have lX : (excOf cs D).length = cs.length := by simp [excOf, lD]
    have fEx : H Ex = none := freeZ s2 nEx
    have eEX : excOf cs D = rExc cs gs := by rw [eDem]; rfl
    generalize excOf cs D = X at eE lX eEX
    have s3 := s2.trans hL.1
    have eD3 := hL.1 _ _ eD
    clear hL
    -- free
    refine ⟨.ref L, rfl, .ref ca, rfl, L, ca, _, _, rfl, SqL.of eD3, sqS s3 hc, fun Fr nFr => lc_it (walk_zipM (K := K) (a := L) (b := ca) (xs := D.map V.int) (ys := cs.map V.int) rfl) (LcP H3 Fr (D.zip cs) (fun q => some (.int (if q.2 - q.1 > 0 then q.2 - q.1 else 0)))) (.start nFr) (fun m Hm _ h => ⟨SqL.of (h.1 _ _ eD3), sqS (s3.trans h.1) hc⟩) ?_ ?_⟩
    · rintro m x Hm Hn hm hL ⟨T, x1, y1, rfl, nT, rfl, hx, hy⟩
      obtain ⟨a, b, rfl, rfl, hz, hml⟩ := zat hx hy
      refine ⟨T, _, rfl, SqT.of upd_same, rfl, _, _, rfl, _, _, rfl, rfl, rfl, ?_⟩
      refine ⟨.int b, rfl, .int a, rfl, _, _, rfl, rfl, _, _, rfl, ?_⟩
      exact hL.yes nFr (sameNew nT) hz rfl (by omega)
    rintro H4 hL
    have eF := hL.done (by rw [List.length_map, List.length_map, lz]; omega)
    rw [show (D.zip cs).filterMap (fun q => some (V.int (if q.2 - q.1 > 0 then q.2 - q.1 else 0))) = (freOf cs D).map V.int by rw [fm_map, ← fre_zip]; rfl] at eF
    have lF : (freOf cs D).length = cs.length := by simp [freOf, lD]
    have fFr : H Fr = none := freeZ s3 nFr
    have eFF : freOf cs D = rFre cs gs := by rw [eDem]; rfl
    generalize freOf cs D = F at eF lF eFF
    have s4 := s3.trans hL.1
    have eD4 := hL.1 _ _ eD3
    have eE4 := hL.1 _ _ eE
    clear hL
    -- crowded
    have at' : ∀ {ds : List Int} {n : Nat}, n < ds.length → (ds.map V.int)[n]? = some (.int (ds.getD n 0)) := fun {ds n} h => by
      rw [List.getElem?_map, List.getD_eq_getElem?_getD, List.getElem?_eq_getElem h]; rfl
    refine ⟨.ref ca, rfl, ca, _, rfl, .inr (sqS s4 hc), _, rfl, by rw [List.length_map]; omega, by rw [List.length_map]; omega, fun Cr nCr => lc_it (walk_range (lo := 0) (n := (((cs.map V.int).length : Nat) : Int).toNat)) (LcP H4 Cr (upTo cs.length) (fun q => if X.getD q.toNat 0 > 0 then some (.int q) else none)) (.start nCr) (fun m Hm _ h => trivial) ?_ ?_⟩
    · rintro m x Hm Hn hm hL ⟨rfl, rfl⟩
      rw [List.length_map] at hm
      have hml : m < cs.length := by omega
      refine ⟨rfl, .ref Ex, rfl, .int (0 + (m : Nat)), rfl, Ex, _, m, .int (X.getD m 0), rfl, by rw [Int.zero_add], SqL.of (hL.1 _ _ eE4), atI_nat (at' (by omega)), _, _, rfl, rfl, _, rfl, ?_⟩
      have hz := upTo_at hml
      by_cases k1 : X.getD m 0 > 0
      · rw [decide_eq_true k1]
        exact iteT ⟨_, rfl, hL.yes (y := .int (0 + (m : Nat))) nCr (Same.refl _) hz (by rw [Int.toNat_natCast, if_pos k1, Int.zero_add]) (by omega)⟩
      · rw [decide_eq_false k1]
        exact iteF (hL.no (Same.refl _) hz (by rw [Int.toNat_natCast, if_neg k1]))
    rintro H5 hL
    have eC := hL.done (by rw [List.length_map, upTo_len]; omega)
    have eCC : (upTo cs.length).filterMap (fun q => if X.getD q.toNat 0 > 0 then some (V.int q) else none) = (rCro cs gs).map V.int := by
      rw [eEX]
      have := sel_fm (fun x => decide (0 < x)) (rExc cs gs) cs.length
      simp only [decide_eq_true_eq] at this
      exact this
    rw [eCC] at eC
    have fC := flat_ints (rCro cs gs)
    have s5 := s4.trans hL.1
    have eD5 := hL.1 _ _ eD4
    have eE5 := hL.1 _ _ eE4
    have eF5 := hL.1 _ _ eF
    clear hL
    refine ⟨Nat.zero_le _, fun Rw nRw => ?_⟩
    have sR := sameNew (o := .lst []) nRw
    have s6 := s5.trans sR
    have eR : (upd H5 Rw (.lst [])) Rw = some (.lst []) := upd_same
    have fRw : H5 Rw = none := nRw
    generalize hH6 : upd H5 Rw (.lst []) = H6 at sR s6 eR ⊢
    refine ⟨.ref ga, rfl, ga, _, rfl, .inr (sqS s6 hg), _, rfl, by omega, by omega, for_it (walk_range (lo := 0) (n := ((xs.length : Nat) : Int).toNat))
      (fun j σ Hj => ∃ (y4 y5 y6 y11 : Option V) (rs : List V), σ = [some (.ref i), some (.ref ca), some (.ref ga), some (.ref L), y4, y5, y6, some (.ref Ex), some (.ref Fr), some (.ref Cr), some (.ref Rw), y11, none, none] ∧ Same H5 Hj ∧ Hj Rw = some (.lst rs) ∧ Rl (RowT K Hj) rs (rowsTo cs gs j))
      ⟨y4, y5, y6, none, [], rfl, by rw [← hH6]; exact sameNew nRw, eR, .nil⟩ (fun _ _ _ _ _ => trivial) ?_ ?_⟩
    · rintro j v σ Hx Hj hlt ⟨y4, y5, y6, y11, rs, rfl, sj, eRj, hrs⟩ ⟨rfl, rfl⟩
      have lrs : rs.length ≤ j := by rw [hrs.1]; exact rowsTo_len ..
      have hj : j < gs.length := by omega
      have hgj : gs[j]? = some gs[j] := List.getElem?_eq_getElem hj
      obtain ⟨gA, pA, hx, hG, hP⟩ := grp_at hgs hgj
      have gp := hin gs[j] (List.getElem_mem hj)
      have ss := s5.trans sj
      generalize gs[j] = g at hgj hx hG hP gp
      rw [show (fun i : Nat => V.int (0 + (i : Int))) = fun i : Nat => V.int (i : Int) from funext fun i => by rw [Int.zero_add]]
      refine ⟨.ref ga, rfl, .int (j : Nat), rfl, ga, _, j, .ref gA, rfl, rfl, sqS ss hg, atI_nat hx, gA, _, 0, .ref pA, rfl, rfl, sqS ss hG, atI_nat (j := 0) rfl, ?_⟩
      refine ⟨.ref pA, rfl, Nat.zero_le _, fun Em nEm => ?_⟩
      have sE := sameNew (o := .tup []) nEm
      have sEj := sj.trans sE
      refine ⟨pA, Em, _, rfl, rfl, sqS (ss.trans sE) hP, SqT.of upd_same, _, rfl, ?_⟩
      have eRj1 := sE _ _ eRj
      have hrs1 : Rl (RowT K (upd Hj Em (.tup []))) rs (rowsTo cs gs j) := hrs.mono fun _ _ x => x.tk (TupK.of sE)
      have ss1 := ss.trans sE
      generalize upd Hj Em (.tup []) = H7 at sE sEj eRj1 hrs1 ss1 ⊢
      have hP7 := sqS ss1 hP
      cases hgg : g.1 with
      | nil =>
        have e0 : rowsTo cs gs (j + 1) = rowsTo cs gs j := by
          rw [rowsTo_succ hgj]
          unfold rowAt routeOf
          rw [hgg]
          exact List.append_nil _
        exact iteF (iteF ⟨_, _, _, _, rs, rfl, sEj, eRj1, by rw [e0]; exact hrs1⟩)
      | cons pp ps =>
        refine iteT ?_
        have hpr := gp.2 pp (by rw [hgg]; simp)
        obtain ⟨pn, rfl⟩ : ∃ pn : Nat, pp = pn := ⟨pp.toNat, by omega⟩
        have h0 : (g.1.map V.int)[0]? = some (.int (pn : Nat)) := by rw [hgg]; rfl
        refine ⟨.ref pA, rfl, pA, _, _, .int pn, rfl, rfl, hP7, atI_nat (j := 0) h0, .ref Cr, rfl, Cr, _, rfl, .inl (SqL.of (sEj _ _ eC)), rfl, fC, _, rfl, ?_⟩
        rw [if_neg (by decide)]
        refine ite2 (fun h1 => ?_) (fun h1 => ?_)
        · rw [inV_ints] at h1
          refine ⟨.ref Rw, rfl, .inl ⟨rfl, _, SqL.of eRj1⟩, .int (j : Nat), rfl, .ref pA, rfl, pA, _, _, .int pn, rfl, rfl, hP7, atI_nat (j := 0) h0, .ref pA, rfl, 1, rfl, ?_⟩
          dsimp only [tNoPart]
          refine drop_eq hP7 1 (fun H8 b s8 hb => ⟨b, rfl, ⟨_, hb⟩, fun Lc nLc => lc_it (walk_tup (K := K) (a := b) (xs := (g.1.map V.int).drop 1)) (LcP H8 Lc (g.1.drop 1) (fun q => if F.getD q.toNat 0 > 0 then some (.int q) else none)) (.start nLc) (fun m Hm _ h => sqS h.1 hb) ?_ ?_⟩)
          · rintro m x Hm Hn hm hL ⟨rfl, hx⟩
            have hx : ((g.1.map V.int).drop 1)[m]? = some x := hx
            rw [← List.map_drop, List.getElem?_map] at hx
            obtain ⟨q', hq', rfl⟩ := Option.map_eq_some_iff.mp hx
            have hqm := gp.2 q' (List.mem_of_mem_drop (List.mem_of_getElem? hq'))
            have hml := (List.getElem?_eq_some_iff.mp hq').1
            rw [List.length_drop] at hml
            obtain ⟨qn, rfl⟩ : ∃ qn : Nat, q' = qn := ⟨q'.toNat, by omega⟩
            refine ⟨rfl, .ref Fr, rfl, .int (qn : Nat), rfl, Fr, _, qn, .int (F.getD qn 0), rfl, rfl, SqL.of (((sEj.trans s8).trans hL.1) _ _ eF5), atI_nat (at' (by omega)), _, _, rfl, rfl, _, rfl, ?_⟩
            by_cases k1 : F.getD qn 0 > 0
            · rw [decide_eq_true k1]
              exact iteT ⟨_, rfl, hL.yes nLc (Same.refl _) hq' (by rw [Int.toNat_natCast, if_pos k1]) (by omega)⟩
            · rw [decide_eq_false k1]
              exact iteF (hL.no (Same.refl _) hq' (by rw [Int.toNat_natCast, if_neg k1]))
          rintro H9 hL
          have eLc := hL.done (by rw [List.length_drop, List.length_drop, List.length_map]; omega)
          have lfm := List.length_filterMap_le (fun q : Int => if F.getD q.toNat 0 > 0 then some (V.int q) else none) (g.1.drop 1)
          rw [List.length_drop] at lfm
          have ho := res_fm (cs := cs) (gs := gs) (ps := g.1) (fun p hp => (gp.2 p hp)) (by rw [hgg]; simp)
          rw [← eFF] at ho
          have hRow : rowsTo cs gs (j + 1) = rowsTo cs gs j ++ [(j, (pn : Int), g.1[resOf g.1 (rCla cs gs)]?, g.2)] := by
            rw [rowsTo_succ hgj]
            unfold rowAt routeOf
            rw [hgg]
            simp only [if_pos h1, Option.map_some, Option.toList_some]
          generalize g.1[resOf g.1 (rCla cs gs)]? = o at ho hRow
          generalize (g.1.drop 1).filterMap (fun q : Int => if F.getD q.toNat 0 > 0 then some (V.int q) else none) = fl at eLc lfm ho
          refine ⟨(show (1 : Nat) ≤ sizeLine by decide), fun Nl nNl => ?_⟩
          have sN := sameNew (o := .lst [.non]) nNl
          refine ⟨Lc, Nl, _, _, rfl, rfl, sN _ _ eLc, upd_same, Nat.le_of_lt (small (by simp; omega)), fun Cl nCl => ?_⟩
          have sC := sN.trans (sameNew (o := .lst (fl ++ [.non])) nCl)
          refine ⟨Cl, _, 0, oV o, rfl, rfl, SqL.of upd_same, atI_nat (j := 0) ho, (show (3 : Nat) ≤ sizeLine by decide), fun T nT => ?_⟩
          have sT := ((s8.trans hL.1).trans sC).trans (sameNew (o := .tup [.int (j : Nat), .int (pn : Nat), oV o]) nT)
          have eR9 := sT _ _ eRj1
          refine ⟨Rw, rs, _, rfl, rfl, eR9, Nat.lt_of_le_of_lt (show rs.length ≤ 100 by omega) (small (by decide)), ?_⟩
          have tkp := TupK.put (o := .lst (rs ++ [.ref T])) eR9
          refine ⟨_, _, _, _, rs ++ [.ref T], rfl, samePut (sEj.trans sT) fRw, upd_same, ?_⟩
          rw [hRow]
          exact (hrs1.mono fun _ _ x => x.tk ((TupK.of sT).trans tkp)).snoc ⟨T, rfl, tkp.sq (SqT.of upd_same)⟩
        · rw [inV_ints] at h1
          have e0 : rowsTo cs gs (j + 1) = rowsTo cs gs j := by
            rw [rowsTo_succ hgj]
            unfold rowAt routeOf
            rw [hgg]
            simp only [if_neg h1, Option.map_none, Option.toList_none, List.append_nil]
          exact ⟨_, _, _, _, rs, rfl, sEj, eRj1, by rw [e0]; exact hrs1⟩
    · rintro σ Hx ⟨y4, y5, y6, y11, rs, rfl, sx, eRx, hrs⟩
      refine ⟨.ref L, rfl, .ref Ex, rfl, .ref Fr, rfl, .ref Cr, rfl, .ref Rw, rfl, .ref ca, rfl, (show (6 : Nat) ≤ sizeLine by decide), fun p np => ?_⟩
      have sp := sameNew (o := .lst [.ref L, .ref Ex, .ref Fr, .ref Cr, .ref Rw, .ref ca]) np
      have sx5 := sx.trans sp
      rw [lxs, Int.toNat_natCast] at hrs
      have tks := TupK.of sp
      refine q _ p L Ex Fr Cr Rw ca rs (s5.trans sx5) (freeZ (s5.trans sx) np) ⟨fL, fEx, fFr⟩ ⟨upd_same, ?_, ?_, ?_, ?_, sp _ _ eRx, hrs.mono fun _ _ x => x.tk tks, sqS (s5.trans sx5) hc⟩
      · rw [← eDem]; exact sx5 _ _ eD5
      · rw [← eEX]; exact sx5 _ _ eE5
      · rw [← eFF]; exact sx5 _ _ eF5
      · exact sx5 _ _ eC
end
end Pv

namespace Pv
open PySem PySem.Spec PyProof.Rows L2
abbrev sVv : Stmt := topS 22
theorem scVv : FnScope ["weights", "vector", "weight", "number"] ["weights", "vector"] (defScope sVv) := ⟨rfl, rfl, rfl, by decide +kernel, rfl, by decide +kernel, by decide +kernel⟩
abbrev sIp : Stmt := topS 25
theorem scIp : FnScope ["instance", "value", "price"] ["instance", "value"] (defScope sIp) := ⟨rfl, rfl, rfl, by decide +kernel, rfl, by decide +kernel, by decide +kernel⟩
abbrev sVp : Stmt := topS 24
theorem scVp : FnScope ["instance", "value", "crowd", "places", "excess", "price", "free"] ["instance", "value"] (defScope sVp) := ⟨rfl, rfl, rfl, by decide +kernel, rfl, by decide +kernel, by decide +kernel⟩

/-! values and prices of the program -/
theorem zat {ws us : List Int} {j : Nat} {x y : V} (hx : (ws.map V.int)[j]? = some x) (hy : (us.map V.int)[j]? = some y) : ∃ a b : Int, x = .int a ∧ y = .int b ∧ (ws.zip us)[j]? = some (a, b) ∧ ws[j]? = some a ∧ us[j]? = some b := by
  rw [List.getElem?_map] at hx hy
  obtain ⟨a, ha, rfl⟩ := Option.map_eq_some_iff.mp hx
  obtain ⟨b, hb, rfl⟩ := Option.map_eq_some_iff.mp hy
  exact ⟨a, b, rfl, rfl, by rw [List.getElem?_zip_eq_some]; exact ⟨ha, hb⟩, ha, hb⟩
theorem fm_dot (ws us : List Int) : (ws.zip us).filterMap (fun z => some (V.int (z.1 * z.2))) = ((ws.zip us).map (fun z => z.1 * z.2)).map V.int := by
  rw [fm_map, List.map_map]; rfl
theorem cmulR {i j : Int} (h : j.natAbs ≤ 10 ^ 12) : CMul i j := .inr ⟨by omega, by omega⟩
theorem cmulL {i j : Int} (h : i.natAbs ≤ 10 ^ 12) : CMul i j := .inl ⟨by omega, by omega⟩
def intsP (d : PyData) : List Int := (tupIt d).map intAt
def rowPD (n : Nat) (d : PyData) : Bool := tupOfD n n d && (tupIt d).all (withinD (-1000000000000) 1000000000000)
def okZ (ex us : List Int) : Bool := !(((ex.zip us).filterMap (fun z => if z.1 = 0 then some (!decide (z.2 = 0)) else none)).any id)
def prD (cs : List Int) (gs : List Gp) (d : PyData) : Bool := match d with
  | .tuple [a, b] => rowPD cs.length a && (rowPD cs.length b && (okZ (rExc cs gs) (intsP a) && (okZ (rFre cs gs) (intsP b) && (intsP b).all (fun x => decide (0 ≤ x)))))
  | _ => false
theorem intsP_dI (us : List Int) : intsP (dI us) = us := by
  unfold intsP dI tupIt
  rw [List.map_map]
  exact List.map_id' _
theorem rowP_open {n : Nat} {d : PyData} (h : rowPD n d = true) : ∃ us : List Int, d = dI us ∧ us.length = n ∧ ∀ u ∈ us, u.natAbs ≤ 10 ^ 12 := by
  unfold rowPD at h
  rw [Bool.and_eq_true] at h
  cases d with
  | tuple ds =>
    have h1 := of_decide_eq_true h.1
    obtain ⟨us, rfl, h3⟩ := within_ints h.2
    refine ⟨us, rfl, by rw [List.length_map] at h1; omega, fun u hu => ?_⟩
    have := of_decide_eq_true (List.all_eq_true.mp h3 u hu)
    omega
  | _ => simp [tupOfD] at h
theorem dq_dI {K : PySem.W.Frag} {st r : Addr} {H : Hp} {v : V} {us : List Int} (h : Dq K st r H v (dI us)) : ∃ p, v = .ref p ∧ SqT K H p (us.map V.int) := by
  cases h with
  | tup h1 h2 =>
    refine ⟨_, rfl, ?_⟩
    have e := ints_vals (fun d hd => by obtain ⟨x, _, rfl⟩ := List.mem_map.mp hd; exact ⟨x, rfl⟩) h2
    have e2 : (us.map PyData.int).map intAt = us := intsP_dI us
    rw [e, e2] at h1
    exact h1
theorem pr_open {cs : List Int} {gs : List Gp} {d : PyData} (h : prD cs gs d = true) : ∃ us ws : List Int, d = .tuple [dI us, dI ws] ∧ us.length = cs.length ∧ ws.length = cs.length ∧ (∀ u ∈ us, u.natAbs ≤ 10 ^ 12) ∧ (∀ u ∈ ws, u.natAbs ≤ 10 ^ 12) ∧ okZ (rExc cs gs) us = true ∧ okZ (rFre cs gs) ws = true ∧ ∀ u ∈ ws, 0 ≤ u := by
  unfold prD at h
  split at h
  · rename_i a b
    simp only [Bool.and_eq_true] at h
    obtain ⟨h1, h2, h3, h4, h5⟩ := h
    obtain ⟨us, rfl, l1, b1⟩ := rowP_open h1
    obtain ⟨ws, rfl, l2, b2⟩ := rowP_open h2
    rw [intsP_dI] at h3 h4 h5
    exact ⟨us, ws, rfl, l1, l2, b1, b2, h3, h4, fun u hu => of_decide_eq_true (List.all_eq_true.mp h5 u hu)⟩
  · exact nomatch h
section
variable {P : Program} {w : World} {K : PySem.W.Frag} {mg : Str → Option Value} {base : Heap}
def spVv (K : PySem.W.Frag) : Sp := fun vs H Q _ => ∃ (a b : Addr) (ws xs : List Int), vs = [.ref a, .ref b] ∧ SqT K H a (ws.map V.int) ∧ SqT K H b (xs.map V.int) ∧ ws.length = xs.length ∧ ws.length ≤ 10 ∧ (∀ x ∈ ws, x.natAbs ≤ 10 ^ 12) ∧
  ∀ H', Same H H' → Q (.int (dotL ws xs)) H'
set_option maxHeartbeats 4000000 in
theorem ok_Vv {f : Addr} {fd : FuncData} (F : Fun K "vector_value" "vector_value" sVv f fd)
    (m_zip : mg "zip" = none) (m_sum : mg "sum" = none) :
    FnOk P w K mg base CX0 1 f fd ["weights", "vector"] (spVv K) := by
  refine F.ok scVv (fun vs H Q E h => ?_) (fun cdv A outer s H vs Q E hr h => ?_)
  · obtain ⟨a, b, ws, xs, rfl, _⟩ := h; rfl
  · obtain ⟨a, b, ws, xs, rfl, hA, hB, hl, h10, bw, q⟩ := h
    refine ⟨_, pss_one (ps_ret (pe_callB (cr_sum rfl) (by rfl) m_sum (by decide +kernel) (pa_cons (pe_lc (own := [("weight", 2), ("number", 3)]) (g := gTup K 2 (gCons (gName 2) (gCons (gName 3) gNil))) (tt := tYes) (te := tOp (rI CMul fun i j => .int (i * j)) (tVar 2) (tVar 3)) rfl scVv.nd (RZ.pi_zipA (by rfl) m_zip (pa_cons (pv 0) (pa_cons (pv 1) pa_nil))) (blkOk_by (N := ["weights", "vector", "weight", "number"]) (sc := defScope sVv) (by decide +kernel)) (fun _ _ _ _ _ => pg_tup rfl (pgs_cons (pg_name (i := 2) scVv.nd rfl (.inl rfl)) (pgs_cons (pg_name (i := 3) scVv.nd rfl (.inl rfl)) pgs_nil))) (fun _ _ _ _ _ => pts_nil) (fun _ _ _ _ _ => pe_op op_mul (pv 2) (pv 3))) pa_nil))), ?_⟩
    refine ⟨.ref a, rfl, .ref b, rfl, a, b, _, _, rfl, .inr ⟨hA, hB, fun D nD => lc_it (walk_zipT (K := K) (a := a) (b := b) (xs := ws.map V.int) (ys := xs.map V.int) rfl) (LcP H D (ws.zip xs) (fun z => some (.int (z.1 * z.2)))) (.start nD) (fun j Hj _ h => ⟨sqS h.1 hA, sqS h.1 hB⟩) ?_ ?_⟩⟩
    · rintro j v H2 H3 hlt hL ⟨T, x, y, rfl, nT, rfl, hx, hy⟩
      obtain ⟨x1, y1, rfl, rfl, hz, hx1, hy1⟩ := zat hx hy
      have hj := (List.getElem?_eq_some_iff.mp hx1).1
      exact ⟨T, _, rfl, SqT.of upd_same, rfl, _, _, rfl, _, _, rfl, rfl, rfl, .int x1, rfl, .int y1, rfl, _, _, rfl, rfl, cmulL (bw x1 (List.mem_of_getElem? hx1)), hL.yes nD (sameNew nT) hz rfl (by omega)⟩
    · rintro H2 hL
      have eD := hL.done (by rw [List.length_map, List.length_map, List.length_zip]; exact Nat.le_refl _)
      rw [fm_dot] at eD
      exact ⟨D, _, rfl, SqL.of eD, q _ hL.1⟩
def spIp (K : PySem.W.Frag) : Sp := fun vs H Q _ => ∃ (st r i : Addr) (v : V) (cs : List Int) (gs : List Gp) (d : PyData), vs = [.ref i, v] ∧ Dp K H (.ref i) (dInst cs gs) ∧ InsOk cs gs ∧ Dq K st r H v d ∧ ∀ H', Same H H' → Q (.bl (rowPD cs.length d)) H'
set_option maxHeartbeats 4000000 in
theorem ok_Ip {f fTupOf fWithin : Addr} {fd fdTupOf fdWithin : FuncData} (F : Fun K "is_price_row" "is_price_row" sIp f fd)
    (FTupOf : Fun K "is_tuple_of" "is_tuple_of" sTupOf fTupOf fdTupOf) (bTupOf : Binds K fdTupOf ["value", "least", "most"] []) (gTupOf : mg "is_tuple_of" = some (.ref fTupOf)) (GTupOf : FnOk P w K mg base CX0 1 fTupOf fdTupOf ["value", "least", "most"] (spTupOf K))
    (FWithin : Fun K "is_within" "is_within" sWithin fWithin fdWithin) (bWithin : Binds K fdWithin ["value", "least", "most"] []) (gWithin : mg "is_within" = some (.ref fWithin)) (GWithin : FnOk P w K mg base CX0 2 fWithin fdWithin ["value", "least", "most"] (spWithin K))
    {uLIMIT : Value} (vLIMIT : mg "LIMIT" = some uLIMIT) (rLIMIT : RelV (.int 1000000000000) uLIMIT)
    (m_len : mg "len" = none) (m_all : mg "all" = none) :
    FnOk P w K mg base CX0 3 f fd ["instance", "value"] (spIp K) := by
  refine F.ok scIp (fun vs H Q E h => ?_) (fun cdv A outer s H vs Q E hr h => ?_)
  · obtain ⟨st, r, i, v, cs, gs, d, rfl, _⟩ := h; rfl
  · obtain ⟨st, r, i, v, cs, gs, d, rfl, hI, ok, hv, q⟩ := h
    refine ⟨_, pss_cons (ps_if (pt_not (pt_val (pe_call GTupOf (hr.mono (by omega)) (by rfl) gTupOf FTupOf.kp bTupOf .nil pass0 (pa_cons (pv 1) (pa_cons (pe_callB call_lenQ (by rfl) m_len PySem.boot_len (pa_cons (pe_ix ix_tup (pv 0) (pe_int) (fun _ _ => rfl)) pa_nil)) (pa_cons (pe_callB call_lenQ (by rfl) m_len PySem.boot_len (pa_cons (pe_ix ix_tup (pv 0) (pe_int) (fun _ _ => rfl)) pa_nil)) pa_nil))))))
        (pss_one (ps_ret (pe_bl))) pss_nil)
      (pss_one (ps_ret (pe_callB (cr_all rfl) (by rfl) m_all (by decide +kernel) (pa_cons (pe_lc (own := [("price", 2)]) (g := gName 2) (tt := tYes) (te := tCall (spWithin K) [] E0 (tCons (tVar 2) (tCons (tUn (rU fun i => .int (-i)) (tC (.int 1000000000000))) (tCons (tC (.int 1000000000000)) tNil)))) rfl scIp.nd (pi_tup (pv 1)) (blkOk_by (N := ["instance", "value", "price"]) (sc := defScope sIp) (by decide +kernel)) (fun _ _ _ _ _ => pg_name (i := 2) scIp.nd rfl (.inl rfl)) (fun _ _ _ _ _ => pts_nil) (fun _ _ _ _ _ => pe_call GWithin (hr.mono (by omega)) (by rfl) gWithin FWithin.kp bWithin .nil pass0 (pa_cons (pv 2) (pa_cons (pe_un un_neg (pe_glob (by rfl) vLIMIT rLIMIT)) (pa_cons (pe_glob (by rfl) vLIMIT rLIMIT) pa_nil))))) pa_nil)))), ?_⟩
    obtain ⟨_, ca, ga, ys, e, hi, hc, hgt, hgs⟩ := inst_open hI
    cases e
    have h6 := ok.c6
    refine ⟨v, rfl, .ref i, rfl, i, _, 0, .ref ca, rfl, rfl, hi, atI_nat (j := 0) rfl, ca, _, rfl, .inr hc, .ref i, rfl, i, _, 0, .ref ca, rfl, rfl, hi, atI_nat (j := 0) rfl, ca, _, rfl, .inr hc, st, r, v, d, _, _, rfl, hv, ?_⟩
    rw [List.length_map]
    cases hb : tupOfD (cs.length : Nat) (cs.length : Nat) d with
    | false =>
      refine ⟨_, rfl, iteT ?_⟩
      have : rowPD cs.length d = false := by unfold rowPD; rw [hb]; rfl
      rw [this] at q
      exact q _ (Same.refl _)
    | true =>
    refine ⟨_, rfl, iteF ?_⟩
    obtain ⟨ds, rfl, hdl⟩ : ∃ ds, d = .tuple ds ∧ ds.length = cs.length := by
      cases d with
      | tuple ds => exact ⟨ds, rfl, by have := of_decide_eq_true hb; omega⟩
      | _ => simp [tupOfD] at hb
    obtain ⟨b, rfl, zs, hB, hzs⟩ : ∃ b, v = .ref b ∧ ∃ zs, SqT K H b zs ∧ DqAll K st r H zs ds := by
      cases hv with
      | tup h1 h2 => exact ⟨_, rfl, _, h1, h2⟩
    have lzs := DqAll.len hzs
    refine ⟨.ref b, rfl, b, rfl, ⟨_, hB⟩, fun D nD => lc_it (walk_tup (K := K) (a := b) (xs := zs)) (LcP H D ds (fun z => some (.bl (withinD (-1000000000000) 1000000000000 z)))) (.start nD) (fun j Hj _ h => sqS h.1 hB) ?_ ?_⟩
    · rintro j x H2 H3 hlt hL ⟨rfl, hx⟩
      have hx : zs[j]? = some x := hx
      obtain ⟨dx, hdx, hxd⟩ := DqAll.at hzs hx
      have hj := (List.getElem?_eq_some_iff.mp hdx).1
      exact ⟨rfl, x, rfl, _, rfl, st, r, x, dx, _, _, rfl, hxd.lasts (.of hL.1), hL.yes nD (Same.refl _) hdx rfl (by omega)⟩
    · rintro H2 hL
      have eD := hL.done (by omega)
      rw [show ds.filterMap (fun z => some (V.bl (withinD (-1000000000000) 1000000000000 z))) = (ds.map (withinD (-1000000000000) 1000000000000)).map V.bl by rw [fm_map, List.map_map]; rfl] at eD
      refine ⟨D, _, rfl, SqL.of eD, ?_⟩
      have : rowPD cs.length (.tuple ds) = (ds.map (withinD (-1000000000000) 1000000000000)).all id := by unfold rowPD; rw [hb, Bool.true_and, List.all_map]; rfl
      rw [← this]
      exact q _ hL.1
def spVp (K : PySem.W.Frag) : Sp := fun vs H Q _ => ∃ (st r i : Addr) (v : V) (cs : List Int) (gs : List Gp) (d : PyData), vs = [.ref i, v] ∧ Dp K H (.ref i) (dInst cs gs) ∧ InsOk cs gs ∧ Dq K st r H v d ∧ ∀ H', Same H H' → Q (.bl (prD cs gs d)) H'
set_option maxHeartbeats 4000000 in
theorem ok_Vp {f fTupOf fIp fExc fFre : Addr} {fd fdTupOf fdIp fdExc fdFre : FuncData} (F : Fun K "is_vector_prices" "is_vector_prices" sVp f fd)
    (FTupOf : Fun K "is_tuple_of" "is_tuple_of" sTupOf fTupOf fdTupOf) (bTupOf : Binds K fdTupOf ["value", "least", "most"] []) (gTupOf : mg "is_tuple_of" = some (.ref fTupOf)) (GTupOf : FnOk P w K mg base CX0 1 fTupOf fdTupOf ["value", "least", "most"] (spTupOf K))
    (FIp : Fun K "is_price_row" "is_price_row" sIp fIp fdIp) (bIp : Binds K fdIp ["instance", "value"] []) (gIp : mg "is_price_row" = some (.ref fIp)) (GIp : FnOk P w K mg base CX0 3 fIp fdIp ["instance", "value"] (spIp K))
    (FExc : Fun K "excesses" "excesses" sExc fExc fdExc) (bExc : Binds K fdExc ["instance"] []) (gExc : mg "excesses" = some (.ref fExc)) (GExc : FnOk P w K mg base CX0 2 fExc fdExc ["instance"] (spVec K rExc))
    (FFre : Fun K "free_places" "free_places" sFre fFre fdFre) (bFre : Binds K fdFre ["instance"] []) (gFre : mg "free_places" = some (.ref fFre)) (GFre : FnOk P w K mg base CX0 2 fFre fdFre ["instance"] (spVec K rFre))
    (m_zip : mg "zip" = none) (m_any : mg "any" = none) (m_all : mg "all" = none) :
    FnOk P w K mg base CX0 4 f fd ["instance", "value"] (spVp K) := by
  refine F.ok scVp (fun vs H Q E h => ?_) (fun cdv A outer s H vs Q E hr h => ?_)
  · obtain ⟨st, r, i, v, cs, gs, d, rfl, _⟩ := h; rfl
  · obtain ⟨st, r, i, v, cs, gs, d, rfl, hI, ok, hv, q⟩ := h
    refine ⟨_, pss_cons (ps_if (pt_not (PW.pt (pw_and (pt_val (pe_call GTupOf (hr.mono (by omega)) (by rfl) gTupOf FTupOf.kp bTupOf .nil pass0 (pa_cons (pv 1) (pa_cons (pe_int) (pa_cons (pe_int) pa_nil))))) (pw_and (pt_val (pe_call GIp (hr.mono (by omega)) (by rfl) gIp FIp.kp bIp .nil pass0 (pa_cons (pv 0) (pa_cons (pe_ix ix_tup (pv 1) (pe_int) (fun _ _ => rfl)) pa_nil)))) (pw_and1 (pt_val (pe_call GIp (hr.mono (by omega)) (by rfl) gIp FIp.kp bIp .nil pass0 (pa_cons (pv 0) (pa_cons (pe_ix ix_tup (pv 1) (pe_int) (fun _ _ => rfl)) pa_nil)))))))))
        (pss_one (ps_ret (pe_bl))) pss_nil)
      (pss_cons (ps_asg (pv 1) (pg_tup rfl (pgs_cons (pg_name (i := 2) scVp.nd rfl (.inl rfl)) (pgs_cons (pg_name (i := 3) scVp.nd rfl (.inl rfl)) pgs_nil))))
      (pss_cons (ps_if (pt_val (pe_callB (cr_any rfl) (by rfl) m_any (by decide +kernel) (pa_cons (pe_lc (own := [("excess", 4), ("price", 5)]) (g := gTup K 2 (gCons (gName 4) (gCons (gName 5) gNil))) (tt := tTest (tOp rEq (tVar 4) (tC (.int 0)))) (te := tOp rNe (tVar 5) (tC (.int 0))) rfl scVp.nd (RZ.pi_zipA (by rfl) m_zip (pa_cons (pe_call GExc (hr.mono (by omega)) (by rfl) gExc FExc.kp bExc .nil pass0 (pa_cons (pv 0) pa_nil)) (pa_cons (pv 2) pa_nil))) (blkOk_by (N := ["instance", "value", "crowd", "places", "excess", "price", "free"]) (sc := defScope sVp) (by decide +kernel)) (fun _ _ _ _ _ => pg_tup rfl (pgs_cons (pg_name (i := 4) scVp.nd rfl (.inl rfl)) (pgs_cons (pg_name (i := 5) scVp.nd rfl (.inl rfl)) pgs_nil))) (fun _ _ _ _ _ => pts_one (pt_cmpR op_eq (pv 4) (pe_int) (nomark _))) (fun _ _ _ _ _ => pe_cmpR op_ne (pv 5) (pe_int) (nomark _))) pa_nil)))
        (pss_one (ps_ret (pe_bl))) pss_nil)
      (pss_cons (ps_if (pt_val (pe_callB (cr_any rfl) (by rfl) m_any (by decide +kernel) (pa_cons (pe_lc (own := [("free", 6), ("price", 5)]) (g := gTup K 2 (gCons (gName 6) (gCons (gName 5) gNil))) (tt := tTest (tOp rEq (tVar 6) (tC (.int 0)))) (te := tOp rNe (tVar 5) (tC (.int 0))) rfl scVp.nd (RZ.pi_zipA (by rfl) m_zip (pa_cons (pe_call GFre (hr.mono (by omega)) (by rfl) gFre FFre.kp bFre .nil pass0 (pa_cons (pv 0) pa_nil)) (pa_cons (pv 3) pa_nil))) (blkOk_by (N := ["instance", "value", "crowd", "places", "excess", "price", "free"]) (sc := defScope sVp) (by decide +kernel)) (fun _ _ _ _ _ => pg_tup rfl (pgs_cons (pg_name (i := 6) scVp.nd rfl (.inl rfl)) (pgs_cons (pg_name (i := 5) scVp.nd rfl (.inl rfl)) pgs_nil))) (fun _ _ _ _ _ => pts_one (pt_cmpR op_eq (pv 6) (pe_int) (nomark _))) (fun _ _ _ _ _ => pe_cmpR op_ne (pv 5) (pe_int) (nomark _))) pa_nil)))
        (pss_one (ps_ret (pe_bl))) pss_nil)
      (pss_one (ps_ret (pe_callB (cr_all rfl) (by rfl) m_all (by decide +kernel) (pa_cons (pe_lc (own := [("price", 5)]) (g := gName 5) (tt := tYes) (te := tOp (rI0 fun i j => .bl (decide (j ≤ i))) (tVar 5) (tC (.int 0))) rfl scVp.nd (pi_tup (pv 3)) (blkOk_by (N := ["instance", "value", "crowd", "places", "excess", "price", "free"]) (sc := defScope sVp) (by decide +kernel)) (fun _ _ _ _ _ => pg_name (i := 5) scVp.nd rfl (.inl rfl)) (fun _ _ _ _ _ => pts_nil) (fun _ _ _ _ _ => pe_cmpR op_ge (pv 5) (pe_int) (nomark _))) pa_nil))))))), ?_⟩
    refine ⟨v, rfl, st, r, v, d, 2, 2, rfl, hv, ?_⟩
    cases hb : tupOfD 2 2 d with
    | false =>
      refine ⟨_, rfl, iteF (iteT ?_)⟩
      have : prD cs gs d = false := by
        cases d with
        | tuple ds =>
          unfold prD
          split
          · rename_i a b e; cases e; simp [tupOfD] at hb
          · rfl
        | _ => rfl
      rw [this] at q
      exact q _ (Same.refl _)
    | true =>
    refine ⟨_, rfl, iteT ?_⟩
    obtain ⟨da, db, rfl⟩ : ∃ da db, d = .tuple [da, db] := by
      cases d with
      | tuple ds =>
        have h := of_decide_eq_true hb
        match ds, h with
        | [], h => simp at h
        | [_], h => simp at h
        | [x, y], _ => exact ⟨x, y, rfl⟩
        | _ :: _ :: _ :: _, h => simp at h; omega
      | _ => simp [tupOfD] at hb
    obtain ⟨b, rfl, va, vb, hB, ha, hb'⟩ : ∃ b, v = .ref b ∧ ∃ va vb, SqT K H b [va, vb] ∧ Dq K st r H va da ∧ Dq K st r H vb db := by
      cases hv with
      | tup h1 h2 =>
        cases h2 with
        | cons x1 h2 =>
          cases h2 with
          | cons x2 h2 => cases h2; exact ⟨_, rfl, _, _, h1, x1, x2⟩
    refine ⟨.ref i, rfl, .ref b, rfl, b, _, 0, va, rfl, rfl, hB, atI_nat (j := 0) rfl, st, r, i, va, cs, gs, da, rfl, hI, ok, ha, fun H1 s1 => ?_⟩
    cases ra : rowPD cs.length da with
    | false =>
      refine ⟨_, rfl, iteF (iteT ?_)⟩
      have : prD cs gs (.tuple [da, db]) = false := by unfold prD; simp only; rw [ra]; rfl
      rw [this] at q
      exact q _ s1
    | true =>
    refine ⟨_, rfl, iteT ?_⟩
    refine ⟨.ref i, rfl, .ref b, rfl, b, _, 1, vb, rfl, rfl, sqS s1 hB, atI_nat (j := 1) rfl, st, r, i, vb, cs, gs, db, rfl, (TupK.of s1).dp _ _ (to_dInst _ _) hI, ok, hb'.lasts (.of s1), fun H2 s2 => ?_⟩
    have s02 := s1.trans s2
    cases rb : rowPD cs.length db with
    | false =>
      refine ⟨_, rfl, iteT ?_⟩
      have : prD cs gs (.tuple [da, db]) = false := by unfold prD; simp only; rw [ra, rb]; rfl
      rw [this] at q
      exact q _ s02
    | true =>
    refine ⟨_, rfl, iteF ?_⟩
    obtain ⟨us, rfl, lu, bu⟩ := rowP_open ra
    obtain ⟨ws, rfl, lw, bw⟩ := rowP_open rb
    obtain ⟨pa, rfl, hA⟩ := dq_dI ha
    obtain ⟨pb, rfl, hBb⟩ := dq_dI hb'
    have hpr : prD cs gs (.tuple [dI us, dI ws]) = (okZ (rExc cs gs) us && (okZ (rFre cs gs) ws && ws.all (fun x => decide (0 ≤ x)))) := by
      unfold prD; simp only; rw [ra, rb, intsP_dI, intsP_dI, Bool.true_and, Bool.true_and]
    refine ⟨.ref b, rfl, b, _, rfl, sqS s02 hB, rfl, _, _, rfl, _, _, rfl, rfl, ?_⟩
    have h6 := ok.c6
    -- the first row
    refine ⟨.ref i, rfl, i, cs, gs, rfl, (TupK.of s02).dp _ _ (to_dInst _ _) hI, ok, fun H3 ex s3 hex => ?_⟩
    have hE := sq_dI hex
    have s03 := s02.trans s3
    have lE := rExc_len cs gs
    refine ⟨.ref pa, rfl, ex, pa, _, _, rfl, .inr ⟨hE, sqS s03 hA, fun D nD => lc_it (walk_zipT (K := K) (a := ex) (b := pa) (xs := (rExc cs gs).map V.int) (ys := us.map V.int) rfl) (LcP H3 D ((rExc cs gs).zip us) (fun z => if z.1 = 0 then some (.bl (!decide (z.2 = 0))) else none)) (.start nD) (fun j Hj _ h => ⟨sqS h.1 hE, sqS (s03.trans h.1) hA⟩) ?_ ?_⟩⟩
    · rintro j x H4 H5 hlt hL ⟨T, x, y, rfl, nT, rfl, hx, hy⟩
      obtain ⟨x1, y1, rfl, rfl, hz, hx1, hy1⟩ := zat hx hy
      have hj := (List.getElem?_eq_some_iff.mp hx1).1
      refine ⟨T, _, rfl, SqT.of upd_same, rfl, _, _, rfl, _, _, rfl, rfl, rfl, .int x1, rfl, rfl, _, rfl, ?_⟩
      by_cases h0 : x1 = 0
      · rw [show decide (V.int x1 = V.int 0) = true from decide_eq_true (by rw [h0])]
        exact iteT ⟨.int y1, rfl, rfl, hL.yes nD (sameNew nT) hz (by rw [if_pos h0]; congr 2; rw [decide_eq_decide.mpr ⟨fun z => congrArg V.int z, fun z => V.int.inj z⟩]) (by omega)⟩
      · rw [show decide (V.int x1 = V.int 0) = false from decide_eq_false (fun z => h0 (V.int.inj z))]
        exact iteF (hL.no (sameNew nT) hz (by rw [if_neg h0]))
    rintro H4 hL
    have eD := hL.done (by rw [List.length_map, List.length_map, List.length_zip]; exact Nat.le_refl _)
    rw [show ((rExc cs gs).zip us).filterMap (fun z => if z.1 = 0 then some (V.bl (!decide (z.2 = 0))) else none) = (((rExc cs gs).zip us).filterMap (fun z => if z.1 = 0 then some (!decide (z.2 = 0)) else none)).map V.bl by
      rw [List.map_filterMap]
      exact fm_cong fun z _ => by split <;> rfl] at eD
    have s04 := s03.trans hL.1
    refine ⟨D, _, rfl, SqL.of eD, ?_⟩
    cases oE : okZ (rExc cs gs) us with
    | false =>
      have e1 : (((rExc cs gs).zip us).filterMap (fun z => if z.1 = 0 then some (!decide (z.2 = 0)) else none)).any id = true := by unfold okZ at oE; simpa using oE
      rw [e1]
      refine ⟨_, rfl, iteT ?_⟩
      rw [hpr, oE] at q
      exact q _ s04
    | true =>
    have e1 : (((rExc cs gs).zip us).filterMap (fun z => if z.1 = 0 then some (!decide (z.2 = 0)) else none)).any id = false := by unfold okZ at oE; simpa using oE
    rw [e1]
    refine ⟨_, rfl, iteF ?_⟩
    clear hL eD e1
    -- the second row
    refine ⟨.ref i, rfl, i, cs, gs, rfl, (TupK.of s04).dp _ _ (to_dInst _ _) hI, ok, fun H5 fx s5 hfx => ?_⟩
    have hF := sq_dI hfx
    have s05 := s04.trans s5
    have lF := rFre_len cs gs
    refine ⟨.ref pb, rfl, fx, pb, _, _, rfl, .inr ⟨hF, sqS s05 hBb, fun D nD => lc_it (walk_zipT (K := K) (a := fx) (b := pb) (xs := (rFre cs gs).map V.int) (ys := ws.map V.int) rfl) (LcP H5 D ((rFre cs gs).zip ws) (fun z => if z.1 = 0 then some (.bl (!decide (z.2 = 0))) else none)) (.start nD) (fun j Hj _ h => ⟨sqS h.1 hF, sqS (s05.trans h.1) hBb⟩) ?_ ?_⟩⟩
    · rintro j x H6 H7 hlt hL ⟨T, x, y, rfl, nT, rfl, hx, hy⟩
      obtain ⟨x1, y1, rfl, rfl, hz, hx1, hy1⟩ := zat hx hy
      have hj := (List.getElem?_eq_some_iff.mp hx1).1
      refine ⟨T, _, rfl, SqT.of upd_same, rfl, _, _, rfl, _, _, rfl, rfl, rfl, .int x1, rfl, rfl, _, rfl, ?_⟩
      by_cases h0 : x1 = 0
      · rw [show decide (V.int x1 = V.int 0) = true from decide_eq_true (by rw [h0])]
        exact iteT ⟨.int y1, rfl, rfl, hL.yes nD (sameNew nT) hz (by rw [if_pos h0]; congr 2; rw [decide_eq_decide.mpr ⟨fun z => congrArg V.int z, fun z => V.int.inj z⟩]) (by omega)⟩
      · rw [show decide (V.int x1 = V.int 0) = false from decide_eq_false (fun z => h0 (V.int.inj z))]
        exact iteF (hL.no (sameNew nT) hz (by rw [if_neg h0]))
    rintro H6 hL
    have eD := hL.done (by rw [List.length_map, List.length_map, List.length_zip]; exact Nat.le_refl _)
    rw [show ((rFre cs gs).zip ws).filterMap (fun z => if z.1 = 0 then some (V.bl (!decide (z.2 = 0))) else none) = (((rFre cs gs).zip ws).filterMap (fun z => if z.1 = 0 then some (!decide (z.2 = 0)) else none)).map V.bl by
      rw [List.map_filterMap]
      exact fm_cong fun z _ => by split <;> rfl] at eD
    have s06 := s05.trans hL.1
    refine ⟨D, _, rfl, SqL.of eD, ?_⟩
    cases oF : okZ (rFre cs gs) ws with
    | false =>
      have e1 : (((rFre cs gs).zip ws).filterMap (fun z => if z.1 = 0 then some (!decide (z.2 = 0)) else none)).any id = true := by unfold okZ at oF; simpa using oF
      rw [e1]
      refine ⟨_, rfl, iteT ?_⟩
      rw [hpr, oE, oF] at q
      exact q _ s06
    | true =>
    have e1 : (((rFre cs gs).zip ws).filterMap (fun z => if z.1 = 0 then some (!decide (z.2 = 0)) else none)).any id = false := by unfold okZ at oF; simpa using oF
    rw [e1]
    refine ⟨_, rfl, iteF ?_⟩
    clear hL eD e1
    rw [hpr, oE, oF, Bool.true_and, Bool.true_and] at q
    have hB6 := sqS s06 hBb
    refine ⟨.ref pb, rfl, pb, rfl, ⟨_, hB6⟩, fun D nD => lc_it (walk_tup (K := K) (a := pb) (xs := ws.map V.int)) (LcP H6 D ws (fun z => some (.bl (decide (0 ≤ z))))) (.start nD) (fun j Hj _ h => sqS h.1 hB6) ?_ ?_⟩
    · rintro j x H7 H8 hlt hL ⟨rfl, hx⟩
      have hx : (ws.map V.int)[j]? = some x := hx
      rw [List.getElem?_map] at hx
      obtain ⟨u, hu, rfl⟩ := Option.map_eq_some_iff.mp hx
      have hj := (List.getElem?_eq_some_iff.mp hu).1
      exact ⟨rfl, .int u, rfl, _, _, rfl, rfl, hL.yes nD (Same.refl _) hu rfl (by omega)⟩
    · rintro H7 hL
      have eD := hL.done (by rw [List.length_map]; exact Nat.le_refl _)
      rw [show ws.filterMap (fun z => some (V.bl (decide (0 ≤ z)))) = (ws.map (fun z => decide (0 ≤ z))).map V.bl by rw [fm_map, List.map_map]; rfl] at eD
      refine ⟨D, _, rfl, SqL.of eD, ?_⟩
      rw [List.all_map]
      exact q _ (s06.trans hL.1)
end
end Pv

namespace Pv
open PySem PySem.Spec PyProof.Rows L2
abbrev sPb : Stmt := topS 23
theorem scPb : FnScope ["instance", "weights", "prices", "crowd", "places", "total", "route", "group", "weight", "cost", "excess", "price", "free"] ["instance", "weights", "prices"] (defScope sPb) := ⟨rfl, rfl, rfl, by decide +kernel, rfl, by decide +kernel, by decide +kernel⟩
section
variable {P : Program} {w : World} {K : PySem.W.Frag} {mg : Str → Option Value} {base : Heap}
def spPb (K : PySem.W.Frag) (C : Addr) : Sp := fun vs H Q E => ∃ (st r i wA : Addr) (v : V) (cs ws : List Int) (gs : List Gp) (d : PyData), vs = [.ref i, .ref wA, v] ∧ Dp K H (.ref i) (dInst cs gs) ∧ InsOk cs gs ∧ SqT K H wA (ws.map V.int) ∧ ws.length = gs.length ∧ (∀ x ∈ ws, x.natAbs ≤ 10 ^ 12) ∧ Dq K st r H v d ∧
  ∀ H', Same H H' → (prD cs gs d = false → E (.ref C) none H') ∧ (∀ us vs : List Int, d = .tuple [dI us, dI vs] → prD cs gs d = true → Q (.int (bndOf cs gs ws us vs)) H')
def bnP (cs : List Int) (gs : List Gp) (ws us vs : List Int) (n : Nat) : Int := ((List.range n).map fun j => rowB us vs (ws.getD j 0) (gs.getD j ([], 0)).2 (routeOf cs gs (gs.getD j ([], 0)))).sum
theorem bnP_succ {cs : List Int} {gs : List Gp} {ws us vs : List Int} {n : Nat} {g : Gp} {w : Int} (hg : gs[n]? = some g) (hw : ws[n]? = some w) : bnP cs gs ws us vs (n + 1) = bnP cs gs ws us vs n + rowB us vs w g.2 (routeOf cs gs g) := by
  unfold bnP
  rw [List.range_succ, List.map_append, List.sum_append]
  simp only [List.map_cons, List.map_nil, List.sum_cons, List.sum_nil, Int.add_zero]
  rw [List.getD_eq_getElem?_getD, List.getD_eq_getElem?_getD, hg, hw]
  rfl
theorem atD2 {ds : List Int} {n : Nat} (h : n < ds.length) : (ds.map V.int)[n]? = some (.int (ds.getD n 0)) := by
  rw [List.getElem?_map, List.getD_eq_getElem?_getD, List.getElem?_eq_getElem h]; rfl
theorem getD_abs {ds : List Int} {B : Nat} (h : ∀ x ∈ ds, x.natAbs ≤ B) (n : Nat) : (ds.getD n 0).natAbs ≤ B := by
  rw [List.getD_eq_getElem?_getD]
  cases e : ds[n]? with
  | none => simp
  | some x => exact h x (List.mem_of_getElem? e)
set_option maxHeartbeats 8000000 in
theorem ok_Pb {f fVp fExc fFre fGr : Addr} {fd fdVp fdExc fdFre fdGr : FuncData} (F : Fun K "price_bound" "price_bound" sPb f fd)
    (FVp : Fun K "is_vector_prices" "is_vector_prices" sVp fVp fdVp) (bVp : Binds K fdVp ["instance", "value"] []) (gVp : mg "is_vector_prices" = some (.ref fVp)) (GVp : FnOk P w K mg base CX0 4 fVp fdVp ["instance", "value"] (spVp K))
    (FExc : Fun K "excesses" "excesses" sExc fExc fdExc) (bExc : Binds K fdExc ["instance"] []) (gExc : mg "excesses" = some (.ref fExc)) (GExc : FnOk P w K mg base CX0 2 fExc fdExc ["instance"] (spVec K rExc))
    (FFre : Fun K "free_places" "free_places" sFre fFre fdFre) (bFre : Binds K fdFre ["instance"] []) (gFre : mg "free_places" = some (.ref fFre)) (GFre : FnOk P w K mg base CX0 2 fFre fdFre ["instance"] (spVec K rFre))
    (FGr : Fun K "group_routes" "group_routes" sGr fGr fdGr) (bGr : Binds K fdGr ["instance"] []) (gGr : mg "group_routes" = some (.ref fGr)) (GGr : FnOk P w K mg base CX0 5 fGr fdGr ["instance"] (spGr K))
    {cBP : Addr} (gBP : mg "BadPrices" = some (.ref cBP)) (IBP : IsC K cBP) (xBP : PySem.W.excIn K cBP VEbm "ValueError.__new__" = true)
    (m_zip : mg "zip" = none) (m_sum : mg "sum" = none) (m_max : mg "max" = none) :
    FnOk P w K mg base (L2.CX P w) 6 f fd ["instance", "weights", "prices"] (spPb K cBP) := by
  refine F.okX scPb (fun vs H Q E h => ?_) (fun cdv A outer s H vs Q E hr h => ?_)
  · obtain ⟨st, r, i, wA, v, cs, ws, gs, d, rfl, _⟩ := h; rfl
  · obtain ⟨st, r, i, wA, v, cs, ws, gs, d, rfl, hI, ok, hW, lw, bw, hv, q⟩ := h
    refine ⟨_, pss_cons (ps_if (pt_not (pt_val (pe_call GVp (hr.mono (by omega)) (by rfl) gVp FVp.kp bVp .nil pass0 (pa_cons (pv 0) (pa_cons (pv 2) pa_nil)))))
        (pss_one (ps_raise rfl (takes_of rfl rfl rfl rfl) (pmk_own0 PySem.F.excBase_ValueError xBP gBP IBP.kp IBP.raises (by rfl)))) pss_nil)
      (pss_cons (ps_asg (pv 2) (pg_tup rfl (pgs_cons (pg_name (i := 3) scPb.nd rfl (.inl rfl)) (pgs_cons (pg_name (i := 4) scPb.nd rfl (.inl rfl)) pgs_nil))))
      (pss_cons (ps_set (i := 5) scPb.nd rfl (.inl rfl) (pe_callB (cr_sum rfl) (by rfl) m_sum (by decide +kernel) (pa_cons (pe_lc (own := [("excess", 10), ("price", 11)]) (g := gTup K 2 (gCons (gName 10) (gCons (gName 11) gNil))) (tt := tYes) (te := tOp (rI CMul fun i j => .int (i * j)) (tVar 10) (tVar 11)) rfl scPb.nd (RZ.pi_zipA (by rfl) m_zip (pa_cons (pe_call GExc (hr.mono (by omega)) (by rfl) gExc FExc.kp bExc .nil pass0 (pa_cons (pv 0) pa_nil)) (pa_cons (pv 3) pa_nil))) (blkOk_by (N := ["instance", "weights", "prices", "crowd", "places", "total", "route", "group", "weight", "cost", "excess", "price", "free"]) (sc := defScope sPb) (by decide +kernel)) (fun _ _ _ _ _ => pg_tup rfl (pgs_cons (pg_name (i := 10) scPb.nd rfl (.inl rfl)) (pgs_cons (pg_name (i := 11) scPb.nd rfl (.inl rfl)) pgs_nil))) (fun _ _ _ _ _ => pts_nil) (fun _ _ _ _ _ => pe_op op_mul (pv 10) (pv 11))) pa_nil)))
      (pss_cons (ps_aug (i := 5) scPb.nd rfl (.inl rfl) (pe_callB (cr_sum rfl) (by rfl) m_sum (by decide +kernel) (pa_cons (pe_lc (own := [("free", 12), ("price", 11)]) (g := gTup K 2 (gCons (gName 12) (gCons (gName 11) gNil))) (tt := tYes) (te := tOp (rI CMul fun i j => .int (i * j)) (tVar 12) (tVar 11)) rfl scPb.nd (RZ.pi_zipA (by rfl) m_zip (pa_cons (pe_call GFre (hr.mono (by omega)) (by rfl) gFre FFre.kp bFre .nil pass0 (pa_cons (pv 0) pa_nil)) (pa_cons (pv 4) pa_nil))) (blkOk_by (N := ["instance", "weights", "prices", "crowd", "places", "total", "route", "group", "weight", "cost", "excess", "price", "free"]) (sc := defScope sPb) (by decide +kernel)) (fun _ _ _ _ _ => pg_tup rfl (pgs_cons (pg_name (i := 12) scPb.nd rfl (.inl rfl)) (pgs_cons (pg_name (i := 11) scPb.nd rfl (.inl rfl)) pgs_nil))) (fun _ _ _ _ _ => pts_nil) (fun _ _ _ _ _ => pe_op op_mul (pv 12) (pv 11))) pa_nil)) ip_add)
      (pss_cons (ps_for (passes_of rfl) rfl (pi_zipQ (by rfl) m_zip (pa_cons (pe_call GGr (hr.mono (by omega)) (by rfl) gGr FGr.kp bGr .nil pass0 (pa_cons (pv 0) pa_nil)) (pa_cons (pe_ix ix_tup (pv 0) (pe_int) (fun _ _ => rfl)) (pa_cons (pv 1) pa_nil)))) (pg_tup rfl (pgs_cons (pg_name (i := 6) scPb.nd rfl (.inl rfl)) (pgs_cons (pg_name (i := 7) scPb.nd rfl (.inl rfl)) (pgs_cons (pg_name (i := 8) scPb.nd rfl (.inl rfl)) pgs_nil))))
        (pss_one (ps_if (pt_cmp (pc_notN (pv 6)))
          (pss_cons (ps_set (i := 9) scPb.nd rfl (.inl rfl) (pe_op op_add (pe_ix ix_tup (pv 3) (pe_ix ix_tup (pv 6) (pe_int) (fun _ _ => rfl)) (fun _ _ => rfl)) (pe_ifExp (pt_cmp (pc_isN (pe_ix ix_tup (pv 6) (pe_int) (fun _ _ => rfl)))) (pe_int) (pe_ix ix_tup (pv 4) (pe_ix ix_tup (pv 6) (pe_int) (fun _ _ => rfl)) (fun _ _ => rfl)))))
          (pss_one (ps_aug (i := 5) scPb.nd rfl (.inl rfl) (pe_op op_mul (pe_ix ix_tup (pv 7) (pe_int) (fun _ _ => rfl)) (pe_callB (call_max2 rfl) (by rfl) m_max (by decide +kernel) (pa_cons (pe_int) (pa_cons (pe_op op_sub (pv 8) (pv 9)) pa_nil)))) ip_add))) pss_nil)))
      (pss_one (ps_ret (pv 5))))))), ?_⟩
    refine ⟨.ref i, rfl, v, rfl, st, r, i, v, cs, gs, d, rfl, hI, ok, hv, fun H1 s1 => ?_⟩
    cases hc : prD cs gs d with
    | false => exact ⟨_, rfl, iteT ((q H1 s1).1 hc)⟩
    | true =>
    refine ⟨_, rfl, iteF ?_⟩
    obtain ⟨us, vs, rfl, lu, lv, bu, bv, _, _, _⟩ := pr_open hc
    obtain ⟨b, rfl, pa, pb, hB, hA, hBb⟩ : ∃ b, v = .ref b ∧ ∃ pa pb, SqT K H b [.ref pa, .ref pb] ∧ SqT K H pa (us.map V.int) ∧ SqT K H pb (vs.map V.int) := by
      cases hv with
      | tup h1 h2 =>
        cases h2 with
        | cons x1 h2 =>
          cases h2 with
          | cons x2 h2 =>
            cases h2
            obtain ⟨pa, rfl, a1⟩ := dq_dI x1
            obtain ⟨pb, rfl, a2⟩ := dq_dI x2
            exact ⟨_, rfl, _, _, h1, a1, a2⟩
    have h6 := ok.c6
    have h10 := ok.g10
    refine ⟨.ref b, rfl, b, _, rfl, sqS s1 hB, rfl, _, _, rfl, _, _, rfl, rfl, ?_⟩
    -- the crowd
    refine ⟨.ref i, rfl, i, cs, gs, rfl, (TupK.of s1).dp _ _ (to_dInst _ _) hI, ok, fun H2 ex s2 hex => ?_⟩
    have hE := sq_dI hex
    have s02 := s1.trans s2
    have lE := rExc_len cs gs
    refine ⟨.ref pa, rfl, ex, pa, _, _, rfl, .inr ⟨hE, sqS s02 hA, fun D nD => lc_it (walk_zipT (K := K) (a := ex) (b := pa) (xs := (rExc cs gs).map V.int) (ys := us.map V.int) rfl) (LcP H2 D ((rExc cs gs).zip us) (fun z => some (.int (z.1 * z.2)))) (.start nD) (fun j Hj _ h => ⟨sqS h.1 hE, sqS (s02.trans h.1) hA⟩) ?_ ?_⟩⟩
    · rintro j x H4 H5 hlt hL ⟨T, x, y, rfl, nT, rfl, hx, hy⟩
      obtain ⟨x1, y1, rfl, rfl, hz, hx1, hy1⟩ := zat hx hy
      have hj := (List.getElem?_eq_some_iff.mp hx1).1
      exact ⟨T, _, rfl, SqT.of upd_same, rfl, _, _, rfl, _, _, rfl, rfl, rfl, .int x1, rfl, .int y1, rfl, _, _, rfl, rfl, cmulR (bu y1 (List.mem_of_getElem? hy1)), hL.yes nD (sameNew nT) hz rfl (by omega)⟩
    rintro H3 hL
    have eD := hL.done (by rw [List.length_map, List.length_map, List.length_zip]; exact Nat.le_refl _)
    rw [fm_dot] at eD
    refine ⟨D, _, rfl, SqL.of eD, ?_⟩
    have s03 := s02.trans hL.1
    clear hL eD
    refine ⟨_, rfl, ?_⟩
    -- the places
    refine ⟨.ref i, rfl, i, cs, gs, rfl, (TupK.of s03).dp _ _ (to_dInst _ _) hI, ok, fun H4 fx s4 hfx => ?_⟩
    have hF := sq_dI hfx
    have s04 := s03.trans s4
    have lF := rFre_len cs gs
    refine ⟨.ref pb, rfl, fx, pb, _, _, rfl, .inr ⟨hF, sqS s04 hBb, fun D nD => lc_it (walk_zipT (K := K) (a := fx) (b := pb) (xs := (rFre cs gs).map V.int) (ys := vs.map V.int) rfl) (LcP H4 D ((rFre cs gs).zip vs) (fun z => some (.int (z.1 * z.2)))) (.start nD) (fun j Hj _ h => ⟨sqS h.1 hF, sqS (s04.trans h.1) hBb⟩) ?_ ?_⟩⟩
    · rintro j x H5 H6 hlt hL ⟨T, x, y, rfl, nT, rfl, hx, hy⟩
      obtain ⟨x1, y1, rfl, rfl, hz, hx1, hy1⟩ := zat hx hy
      have hj := (List.getElem?_eq_some_iff.mp hx1).1
      exact ⟨T, _, rfl, SqT.of upd_same, rfl, _, _, rfl, _, _, rfl, rfl, rfl, .int x1, rfl, .int y1, rfl, _, _, rfl, rfl, cmulR (bv y1 (List.mem_of_getElem? hy1)), hL.yes nD (sameNew nT) hz rfl (by omega)⟩
    rintro H5 hL
    have eD := hL.done (by rw [List.length_map, List.length_map, List.length_zip]; exact Nat.le_refl _)
    rw [fm_dot] at eD
    refine ⟨D, _, rfl, SqL.of eD, _, _, rfl, rfl, ?_⟩
    have s05 := s04.trans hL.1
    clear hL eD
    -- the rows
    refine ⟨.ref i, rfl, i, cs, gs, rfl, (TupK.of s05).dp _ _ (to_dInst _ _) hI, ok, fun H6 rp rs s6 eR hR _ => ?_⟩
    have s06 := s05.trans s6
    obtain ⟨_, ca, ga, ys, e, hi, hcc, hgt, hgs⟩ := inst_open hI
    cases e
    have lx := DpAll.len hgs
    rw [List.length_map] at lx
    have lrs := hR.1
    rw [List.length_map] at lrs
    refine ⟨.ref i, rfl, i, _, 1, .ref ga, rfl, rfl, sqS s06 hi, atI_nat (j := 1) rfl, .ref wA, rfl, rp, ga, wA, _, _, _, rfl, SqL.of eR, sqS s06 hgt, sqS s06 hW, for_it (walk_zipQ (K := K) (a := rp) (b := ga) (c := wA) (xs := rs) (ys := ys) (zs := ws.map V.int) (by omega) (by rw [List.length_map]; omega))
      (fun j σ Hj => ∃ (y6 y7 y8 y9 : Option V), σ = [some (.ref i), some (.ref wA), some (.ref b), some (.ref pa), some (.ref pb), some (.int (dotL (rExc cs gs) us + dotL (rFre cs gs) vs + bnP cs gs ws us vs j)), y6, y7, y8, y9, none, none, none] ∧ Same H6 Hj)
      ⟨none, none, none, none, by rw [show bnP cs gs ws us vs 0 = 0 from rfl, Int.add_zero]; rfl, Same.refl _⟩ (fun j σ Hj _ h => by obtain ⟨_, _, _, _, _, s⟩ := h; exact ⟨SqL.of (s _ _ eR), sqS (s06.trans s) hgt, sqS (s06.trans s) hW⟩) ?_ ?_⟩
    · rintro j v0 σ Hx Hy hlt ⟨y6, y7, y8, y9, rfl, sj⟩ ⟨T, x, y, z, rfl, nT, rfl, hx, hy, hz⟩
      have hj : j < gs.length := by omega
      have hgj : gs[j]? = some gs[j] := List.getElem?_eq_getElem hj
      have hx : rs[j]? = some x := hx
      have hy : ys[j]? = some y := hy
      have hz : (ws.map V.int)[j]? = some z := hz
      rw [List.getElem?_map] at hz
      obtain ⟨w1, hw1, rfl⟩ := Option.map_eq_some_iff.mp hz
      obtain ⟨dg, hdg, hxd⟩ := DpAll.at hgs hy
      rw [List.getElem?_map, hgj] at hdg
      cases hdg
      obtain ⟨gA, pA, rfl, hG, hP⟩ := grp_ref hxd
      have hrt := hR.2 j x (routeOf cs gs gs[j]) hx (by rw [List.getElem?_map, hgj]; rfl)
      have gm := List.getElem_mem hj
      have hbs := bnP_succ (cs := cs) (us := us) (vs := vs) hgj hw1
      have gp := (ok.gp gs[j] gm).2.2
      have hin := fun r => route_in (r := r) ok gm
      generalize gs[j] = g at hG hrt hbs gp hin
      have sT := sj.trans (sameNew (o := .tup [x, .ref gA, .int w1]) nT)
      have s6T := s06.trans sT
      refine ⟨T, _, rfl, SqT.of upd_same, rfl, _, _, rfl, _, _, rfl, _, _, rfl, rfl, ?_⟩
      cases hro : routeOf cs gs g with
      | none =>
        rw [hro] at hrt hbs
        have e : x = .non := hrt
        subst e
        refine ⟨.non, rfl, _, rfl, iteF ⟨some .non, some (.ref gA), some (.int w1), y9, ?_, sT⟩⟩
        rw [hbs, show rowB us vs w1 g.2 none = 0 from rfl, Int.add_zero]
        rfl
      | some rt =>
        rw [hro] at hrt hbs
        obtain ⟨T2, rfl, hT2⟩ := hrt.tk (TupK.of sT)
        have hr1 := hin rt hro
        obtain ⟨fn, hfn⟩ : ∃ fn : Nat, rt.1 = (fn : Int) := ⟨rt.1.toNat, by omega⟩
        have bu1 := getD_abs bu fn
        have bw1 := bw w1 (List.mem_of_getElem? hw1)
        have fin : ∀ c : Int, c = costOf us vs rt → rowB us vs w1 g.2 (some rt) = g.2 * (if w1 - c > 0 then w1 - c else 0) := fun c hc => by rw [hc]; rfl
        refine ⟨.ref T2, rfl, _, rfl, iteT ?_⟩
        rw [hfn] at hT2
        refine ⟨.ref pa, rfl, .ref T2, rfl, T2, _, 0, .int (fn : Nat), rfl, rfl, hT2, atI_nat (j := 0) rfl, pa, _, fn, .int (us.getD fn 0), rfl, rfl, sqS s6T hA, atI_nat (atD2 (by omega)), ?_⟩
        refine ⟨.ref T2, rfl, T2, _, 1, oV rt.2, rfl, rfl, hT2, atI_nat (j := 1) rfl, _, rfl, ?_⟩
        cases ho : rt.2 with
        | none =>
          refine iteT ⟨_, _, rfl, rfl, ?_⟩
          refine ⟨_, rfl, .ref gA, rfl, gA, _, 1, .int g.2, rfl, rfl, sqS s6T hG, atI_nat (j := 1) rfl, .int w1, rfl, .int (us.getD fn 0 + 0), rfl, _, _, rfl, rfl, _, _, rfl, _, _, rfl, rfl, cmulL (by omega), _, _, rfl, rfl, some (.ref T2), some (.ref gA), some (.int w1), some (.int (us.getD fn 0 + 0)), ?_, sT⟩
          rw [hbs, fin (us.getD fn 0 + 0) (by unfold costOf; rw [ho, hfn]; rfl), ← Int.add_assoc]
          rfl
        | some y =>
          have hy1 := hr1.2 y ho
          obtain ⟨yn, rfl⟩ : ∃ yn : Nat, y = (yn : Int) := ⟨y.toNat, by omega⟩
          have bv1 := getD_abs bv yn
          rw [ho] at hT2
          refine iteF ⟨.ref pb, rfl, .ref T2, rfl, T2, _, 1, .int (yn : Nat), rfl, rfl, hT2, atI_nat (j := 1) rfl, pb, _, yn, .int (vs.getD yn 0), rfl, rfl, sqS s6T hBb, atI_nat (atD2 (by omega)), _, _, rfl, rfl, ?_⟩
          refine ⟨_, rfl, .ref gA, rfl, gA, _, 1, .int g.2, rfl, rfl, sqS s6T hG, atI_nat (j := 1) rfl, .int w1, rfl, .int (us.getD fn 0 + vs.getD yn 0), rfl, _, _, rfl, rfl, _, _, rfl, _, _, rfl, rfl, cmulL (by omega), _, _, rfl, rfl, some (.ref T2), some (.ref gA), some (.int w1), some (.int (us.getD fn 0 + vs.getD yn 0)), ?_, sT⟩
          rw [hbs, fin (us.getD fn 0 + vs.getD yn 0) (by unfold costOf; rw [ho, hfn]; rfl), ← Int.add_assoc]
          rfl
    · rintro σ Hx ⟨y6, y7, y8, y9, rfl, sj⟩
      refine ⟨_, rfl, ?_⟩
      have := (q Hx (s06.trans sj)).2 us vs rfl hc
      rw [lrs]
      exact this
end
end Pv

namespace Pv
open PySem PySem.Spec PyProof.Rows L2
abbrev sPk : Stmt := topS 29
theorem scPk : FnScope ["_law_deck_here", "_law_items"] ["_law_deck_here", "_law_items"] (defScope sPk) := ⟨rfl, rfl, rfl, by decide +kernel, rfl, by decide +kernel, by decide +kernel⟩
abbrev sWh : Stmt := topS 38
theorem scWh : FnScope ["_law_value_here", "_law_low", "_law_high"] ["_law_value_here", "_law_low", "_law_high"] (defScope sWh) := ⟨rfl, rfl, rfl, by decide +kernel, rfl, by decide +kernel, by decide +kernel⟩
abbrev sVa : Stmt := topS 41
theorem scVa : FnScope ["_law_weights_here", "_law_vector", "_law_weight", "_law_number"] ["_law_weights_here", "_law_vector"] (defScope sVa) := ⟨rfl, rfl, rfl, by decide +kernel, rfl, by decide +kernel, by decide +kernel⟩

def itemB (lo x : Int) (d : PyData) : Bool := withinD lo 1000000000000 d && (!decide (x = 0) || decide (intAt d = 0))
def sideB (lo : Int) (ex : List Int) (d : PyData) : Bool := tupOfD (ex.length : Nat) (ex.length : Nat) d && (ex.zip (tupIt d)).all (fun z => itemB lo z.1 z.2)
theorem side_ints {lo : Int} {ex : List Int} {d : PyData} (h : sideB lo ex d = true) : ∃ us : List Int, d = dI us ∧ us.length = ex.length ∧ (∀ u ∈ us, lo ≤ u ∧ u ≤ 1000000000000) ∧ ∀ z ∈ ex.zip us, z.1 = 0 → z.2 = 0 := by
  unfold sideB at h
  rw [Bool.and_eq_true] at h
  cases d with
  | tuple ds =>
    have h1 := of_decide_eq_true h.1
    have h2 := List.all_eq_true.mp h.2
    have lds : ds.length = ex.length := by omega
    have h3 : ∀ d ∈ ds, ∃ x, d = PyData.int x := fun d hd => by
      obtain ⟨j, hj, e⟩ := List.mem_iff_getElem.mp hd
      have := h2 (ex[j]'(by omega), ds[j]) (List.mem_of_getElem? (i := j) (by rw [List.getElem?_zip_eq_some]; exact ⟨List.getElem?_eq_getElem (by omega), List.getElem?_eq_getElem hj⟩))
      unfold itemB at this
      rw [Bool.and_eq_true] at this
      rw [e] at this
      cases d with
      | int x => exact ⟨x, rfl⟩
      | _ => simp [withinD] at this
    have h4 : ds = (ds.map intAt).map PyData.int := by
      rw [List.map_map]
      conv => lhs; rw [← List.map_id ds]
      exact List.map_congr_left fun d hd => by obtain ⟨x, rfl⟩ := h3 d hd; rfl
    refine ⟨ds.map intAt, by show PyData.tuple ds = .tuple _; rw [← h4], by rw [List.length_map]; exact lds, fun u hu => ?_, fun z hz hz0 => ?_⟩
    · obtain ⟨d, hd, rfl⟩ := List.mem_map.mp hu
      obtain ⟨j, hj, e⟩ := List.mem_iff_getElem.mp hd
      have := h2 (ex[j]'(by omega), ds[j]) (List.mem_of_getElem? (i := j) (by rw [List.getElem?_zip_eq_some]; exact ⟨List.getElem?_eq_getElem (by omega), List.getElem?_eq_getElem hj⟩))
      unfold itemB at this
      rw [Bool.and_eq_true] at this
      obtain ⟨x, rfl⟩ := h3 d hd
      rw [e] at this
      exact of_decide_eq_true this.1
    · obtain ⟨j, hj, e⟩ := List.mem_iff_getElem.mp hz
      rw [List.length_zip, List.length_map] at hj
      rw [List.getElem_zip, List.getElem_map] at e
      have hjd : j < ds.length := by omega
      have := h2 (ex[j]'(by omega), ds[j]'hjd) (List.mem_of_getElem? (i := j) (by rw [List.getElem?_zip_eq_some]; exact ⟨List.getElem?_eq_getElem (by omega), List.getElem?_eq_getElem hjd⟩))
      unfold itemB at this
      rw [Bool.and_eq_true, Bool.or_eq_true] at this
      rw [← e] at hz0 ⊢
      rcases this.2 with h | h
      · simp only [Bool.not_eq_true', decide_eq_false_iff_not] at h; exact absurd hz0 h
      · exact of_decide_eq_true h
  | _ => simp [tupOfD] at h
theorem side_of {lo : Int} {ex us : List Int} (hl : us.length = ex.length) (hb : ∀ u ∈ us, lo ≤ u ∧ u ≤ 1000000000000) (hz : ∀ z ∈ ex.zip us, z.1 = 0 → z.2 = 0) : sideB lo ex (dI us) = true := by
  unfold sideB
  rw [Bool.and_eq_true]
  refine ⟨decide_eq_true ⟨by rw [List.length_map]; omega, by rw [List.length_map]; omega⟩, List.all_eq_true.mpr fun z h => ?_⟩
  obtain ⟨j, hj, e⟩ := List.mem_iff_getElem.mp h
  have hj2 : j < ex.length ∧ j < us.length := by
    rw [List.length_zip] at hj
    show j < ex.length ∧ j < us.length
    have : (tupIt (dI us)).length = us.length := List.length_map ..
    omega
  have e2 : z = (ex[j]'hj2.1, PyData.int (us[j]'hj2.2)) := by
    have h9 := List.getElem?_eq_getElem hj
    rw [e] at h9
    have h10 : (ex.zip (tupIt (dI us)))[j]? = some (ex[j]'hj2.1, PyData.int (us[j]'hj2.2)) := by
      rw [List.getElem?_zip_eq_some]
      exact ⟨List.getElem?_eq_getElem hj2.1, by show (us.map PyData.int)[j]? = _; rw [List.getElem?_map, List.getElem?_eq_getElem hj2.2]; rfl⟩
    exact Option.some.inj (h9.symm.trans h10)
  rw [e2]
  unfold itemB
  rw [Bool.and_eq_true, Bool.or_eq_true]
  refine ⟨decide_eq_true (hb _ (List.getElem_mem _)), ?_⟩
  by_cases h0 : ex[j]'hj2.1 = 0
  · right
    have := hz (ex[j]'hj2.1, us[j]'hj2.2) (List.mem_of_getElem? (i := j) (by rw [List.getElem?_zip_eq_some]; exact ⟨List.getElem?_eq_getElem hj2.1, List.getElem?_eq_getElem hj2.2⟩)) h0
    exact decide_eq_true this
  · left; simp only [h0, decide_false, Bool.not_false]
theorem okZ_iff {ex us : List Int} : okZ ex us = true ↔ ∀ z ∈ ex.zip us, z.1 = 0 → z.2 = 0 := by
  unfold okZ
  rw [Bool.not_eq_true', List.any_eq_false]
  constructor
  · intro h z hz h0
    have := h (!decide (z.2 = 0)) (List.mem_filterMap.mpr ⟨z, hz, by rw [if_pos h0]⟩)
    simpa using this
  · intro h b hb
    obtain ⟨z, hz, e⟩ := List.mem_filterMap.mp hb
    by_cases h0 : z.1 = 0
    · rw [if_pos h0] at e; cases e; simp [h z hz h0]
    · rw [if_neg h0] at e; cases e
theorem pr_sides (cs : List Int) (gs : List Gp) (a b : PyData) : prD cs gs (.tuple [a, b]) = (sideB (-1000000000000) (rExc cs gs) a && sideB 0 (rFre cs gs) b) := by
  rw [Bool.eq_iff_iff, Bool.and_eq_true]
  constructor
  · intro h
    obtain ⟨us, ws, e, lu, lw, bu, bw, o1, o2, nn⟩ := pr_open h
    cases e
    refine ⟨side_of (by rw [rExc_len]; exact lu) (fun u hu => ?_) (okZ_iff.mp o1), side_of (by rw [rFre_len]; exact lw) (fun u hu => ?_) (okZ_iff.mp o2)⟩
    · have := bu u hu; omega
    · have := bw u hu; have := nn u hu; omega
  · rintro ⟨h1, h2⟩
    obtain ⟨us, rfl, lu, bu, z1⟩ := side_ints h1
    obtain ⟨ws, rfl, lw, bw, z2⟩ := side_ints h2
    rw [rExc_len] at lu
    rw [rFre_len] at lw
    have r1 : rowPD cs.length (dI us) = true := by
      unfold rowPD
      rw [Bool.and_eq_true]
      refine ⟨decide_eq_true ⟨by rw [List.length_map]; omega, by rw [List.length_map]; omega⟩, List.all_eq_true.mpr fun d hd => ?_⟩
      obtain ⟨u, hu, rfl⟩ := List.mem_map.mp hd
      have := bu u hu
      exact decide_eq_true this
    have r2 : rowPD cs.length (dI ws) = true := by
      unfold rowPD
      rw [Bool.and_eq_true]
      refine ⟨decide_eq_true ⟨by rw [List.length_map]; omega, by rw [List.length_map]; omega⟩, List.all_eq_true.mpr fun d hd => ?_⟩
      obtain ⟨u, hu, rfl⟩ := List.mem_map.mp hd
      have := bw u hu
      exact decide_eq_true ⟨by omega, this.2⟩
    unfold prD
    simp only
    rw [r1, r2, intsP_dI, intsP_dI, okZ_iff.mpr z1, okZ_iff.mpr z2]
    simp only [Bool.true_and, List.all_eq_true]
    exact fun u hu => decide_eq_true (bw u hu).1
def rowF (gs : List Gp) (ws us vs : List Int) (r : Rw) : Int := (gs.getD r.1 ([], 0)).2 * mx (ws.getD r.1 0 - costOf us vs (r.2.1, r.2.2.1))
theorem rows_bnd (cs : List Int) (gs : List Gp) (ws us vs : List Int) : ((rowsTo cs gs gs.length).map (rowF gs ws us vs)).sum = bnP cs gs ws us vs gs.length := by
  have key : ∀ n, n ≤ gs.length → ((rowsTo cs gs n).map (rowF gs ws us vs)).sum = bnP cs gs ws us vs n := by
    intro n
    induction n with
    | zero => intro _; rfl
    | succ n ih =>
      intro h
      have hg : gs[n]? = some (gs.getD n ([], 0)) := by rw [List.getD_eq_getElem?_getD, List.getElem?_eq_getElem (show n < gs.length by omega)]; rfl
      rw [rowsTo_succ hg, List.map_append, List.sum_append, ih (by omega)]
      unfold bnP
      rw [List.range_succ, List.map_append, List.sum_append]
      congr 1
      simp only [List.map_cons, List.map_nil, List.sum_cons, List.sum_nil, Int.add_zero]
      unfold rowAt
      cases hr : routeOf cs gs (gs.getD n ([], 0)) with
      | none => rfl
      | some r =>
        simp only [Option.map_some, Option.toList_some, List.map_cons, List.map_nil, List.sum_cons, List.sum_nil, Int.add_zero]
        rfl
  exact key _ (Nat.le_refl _)
section
variable {P : Program} {w : World} {K : PySem.W.Frag} {mg : Str → Option Value} {base : Heap}
def spPk (K : PySem.W.Frag) : Sp := fun vs H Q _ => ∃ (st c r l : Addr) (t : Nat) (xs : List V), vs = [.ref st, .ref l] ∧ DU H st c r t ∧ t < 900000 ∧ H l = some (.lst xs) ∧ 0 < xs.length ∧ xs.length ≤ 1000 ∧ l ≠ st ∧ l ≠ r ∧
  ∀ (H' : Hp) (x : V), x ∈ xs → DU H' st c r (t + 1) → Ext st r H H' → Q x H'
theorem ok_Pk {f fDr : Addr} {fd fdDr : FuncData} (F : Fun K "_law_pick" "_law_pick" sPk f fd)
    (FDr : Fun K "_law_draw" "_law_draw" sDr fDr fdDr) (bDr : Binds K fdDr ["_law_deck_here", "_law_many"] []) (gDr : mg "_law_draw" = some (.ref fDr)) (GDr : FnOk P w K mg base CX0 1 fDr fdDr ["_law_deck_here", "_law_many"] spDraw)
    (m_len : mg "len" = none) :
    FnOk P w K mg base CX0 2 f fd ["_law_deck_here", "_law_items"] (spPk K) := by
  refine F.ok scPk (fun vs H Q E h => ?_) (fun cdv A outer s H vs Q E hr h => ?_)
  · obtain ⟨st, c, r, l, t, xs, rfl, _⟩ := h; rfl
  · obtain ⟨st, c, r, l, t, xs, rfl, hd, ht, eL, l0, l1, n1, n2, q⟩ := h
    refine ⟨_, pss_one (ps_ret (pe_ix ix_list (pv 1) (pe_call GDr (hr.mono (by omega)) (by rfl) gDr FDr.kp bDr .nil pass0 (pa_cons (pv 0) (pa_cons (pe_callB call_lenQ (by rfl) m_len PySem.boot_len (pa_cons (pv 1) pa_nil)) pa_nil))) (fun _ _ => rfl))), ?_⟩
    refine ⟨.ref l, rfl, .ref st, rfl, .ref l, rfl, l, _, rfl, .inl (SqL.of eL), st, c, r, t, xs.length, rfl, hd, ht, by omega, by omega, fun H1 d d0 d1 D1 X1 => ?_⟩
    obtain ⟨k, rfl⟩ : ∃ k : Nat, d = (k : Int) := ⟨d.toNat, by omega⟩
    have hk : k < xs.length := by omega
    exact ⟨l, _, k, xs[k], rfl, rfl, SqL.of (X1 _ _ eL n1 n2), atI_nat (List.getElem?_eq_getElem hk), q _ _ (List.getElem_mem hk) D1 X1⟩
theorem ok_Wh {f : Addr} {fd : FuncData} (F : Fun K "_law_whole" "_law_whole" sWh f fd)
    (m_int : mg "int" = none) (m_isinstance : mg "isinstance" = none) (m_bool : mg "bool" = none) :
    FnOk P w K mg base CX0 1 f fd ["_law_value_here", "_law_low", "_law_high"] (spWithin K) := by
  refine F.ok scWh (fun vs H Q E h => ?_) (fun cdv A outer s H vs Q E hr h => ?_)
  · obtain ⟨st, r, v, d, a, b, rfl, _⟩ := h; rfl
  · obtain ⟨st, r, v, d, a, b, rfl, hd, q⟩ := h
    refine ⟨_, pss_one (ps_ret (pe_and (pe_callB call_isi (by rfl) m_isinstance (by decide +kernel) (pa_cons (pv 0) (pa_cons (pe_bltn (v := .ty "int") (by rfl) m_int (by decide +kernel) rfl) pa_nil))) (pe_and (pe_not (pe_callB call_isi (by rfl) m_isinstance (by decide +kernel) (pa_cons (pv 0) (pa_cons (pe_bltn (v := .ty "bool") (by rfl) m_bool (by decide +kernel) rfl) pa_nil)))) (pe_one (pe_chain op_le op_le (pv 1) (pv 0) (pv 2)))))), ?_⟩
    refine ⟨v, rfl, v, .ty "int", _, _, _, rfl, .ty _, hd.ty, kit_int d, _, rfl, ite2 (fun h1 => ?_) (fun h1 => ?_)⟩
    · refine ⟨v, rfl, v, .ty "bool", _, _, _, rfl, .ty _, hd.ty, kit_bool d, _, rfl, _, rfl, ite2 (fun h2 => ?_) (fun h2 => ?_)⟩
      · obtain ⟨i, rfl⟩ : ∃ i, d = .int i := by
          cases d <;> first | exact ⟨_, rfl⟩ | (simp [isInt, isBool] at h1 h2)
        cases hd
        refine ⟨.int a, rfl, .int i, rfl, _, _, rfl, rfl, _, rfl, ite2 (fun h3 => ?_) (fun h3 => ?_)⟩
        · refine ⟨.int b, rfl, _, _, rfl, rfl, ?_⟩
          have h3' : a ≤ i := of_decide_eq_true h3
          simpa [withinD, h3'] using q
        · have h3' : ¬ a ≤ i := fun z => h3 (decide_eq_true z)
          simpa [withinD, h3'] using q
      · have : withinD a b d = false := by
          cases d <;> first | rfl | (simp [isInt, isBool] at h1 h2)
        rw [this] at q
        exact q
    · have : withinD a b d = false := by
        cases d <;> first | rfl | (simp [isInt, isBool] at h1)
      rw [this] at q
      exact q
set_option maxHeartbeats 4000000 in
theorem ok_Va {f : Addr} {fd : FuncData} (F : Fun K "_law_value" "_law_value" sVa f fd)
    (m_zip : mg "zip" = none) (m_sum : mg "sum" = none) :
    FnOk P w K mg base CX0 1 f fd ["_law_weights_here", "_law_vector"] (spVv K) := by
  refine F.ok scVa (fun vs H Q E h => ?_) (fun cdv A outer s H vs Q E hr h => ?_)
  · obtain ⟨a, b, ws, xs, rfl, _⟩ := h; rfl
  · obtain ⟨a, b, ws, xs, rfl, hA, hB, hl, h10, bw, q⟩ := h
    refine ⟨_, pss_one (ps_ret (pe_callB (cr_sum rfl) (by rfl) m_sum (by decide +kernel) (pa_cons (pe_lc (own := [("_law_weight", 2), ("_law_number", 3)]) (g := gTup K 2 (gCons (gName 2) (gCons (gName 3) gNil))) (tt := tYes) (te := tOp (rI CMul fun i j => .int (i * j)) (tVar 2) (tVar 3)) rfl scVa.nd (RZ.pi_zipA (by rfl) m_zip (pa_cons (pv 0) (pa_cons (pv 1) pa_nil))) (blkOk_by (N := ["_law_weights_here", "_law_vector", "_law_weight", "_law_number"]) (sc := defScope sVa) (by decide +kernel)) (fun _ _ _ _ _ => pg_tup rfl (pgs_cons (pg_name (i := 2) scVa.nd rfl (.inl rfl)) (pgs_cons (pg_name (i := 3) scVa.nd rfl (.inl rfl)) pgs_nil))) (fun _ _ _ _ _ => pts_nil) (fun _ _ _ _ _ => pe_op op_mul (pv 2) (pv 3))) pa_nil))), ?_⟩
    refine ⟨.ref a, rfl, .ref b, rfl, a, b, _, _, rfl, .inr ⟨hA, hB, fun D nD => lc_it (walk_zipT (K := K) (a := a) (b := b) (xs := ws.map V.int) (ys := xs.map V.int) rfl) (LcP H D (ws.zip xs) (fun z => some (.int (z.1 * z.2)))) (.start nD) (fun j Hj _ h => ⟨sqS h.1 hA, sqS h.1 hB⟩) ?_ ?_⟩⟩
    · rintro j v H2 H3 hlt hL ⟨T, x, y, rfl, nT, rfl, hx, hy⟩
      obtain ⟨x1, y1, rfl, rfl, hz, hx1, hy1⟩ := zat hx hy
      have hj := (List.getElem?_eq_some_iff.mp hx1).1
      exact ⟨T, _, rfl, SqT.of upd_same, rfl, _, _, rfl, _, _, rfl, rfl, rfl, .int x1, rfl, .int y1, rfl, _, _, rfl, rfl, cmulL (bw x1 (List.mem_of_getElem? hx1)), hL.yes nD (sameNew nT) hz rfl (by omega)⟩
    · rintro H2 hL
      have eD := hL.done (by rw [List.length_map, List.length_map, List.length_zip]; exact Nat.le_refl _)
      rw [fm_dot] at eD
      exact ⟨D, _, rfl, SqL.of eD, q _ hL.1⟩
end
end Pv

namespace Pv
open PySem PySem.Spec PyProof.Rows L2
abbrev sAp : Stmt := topS 42
theorem scAp : FnScope ["_law_instance", "_law_value_here", "_law_demand", "_law_excess", "_law_free", "_law_crowded", "_law_rows", "_law_capacities", "_law_side", "_law_post"] ["_law_instance", "_law_value_here"] (defScope sAp) := ⟨rfl, rfl, rfl, by decide +kernel, rfl, by decide +kernel, by decide +kernel⟩
abbrev sBo : Stmt := topS 43
theorem scBo : FnScope ["_law_instance", "_law_weights_here", "_law_prices_here", "_law_demand", "_law_excess", "_law_free", "_law_crowded", "_law_rows", "_law_capacities", "_law_found", "_law_group", "_law_first", "_law_reserve", "_law_price", "_law_one", "_law_other"] ["_law_instance", "_law_weights_here", "_law_prices_here"] (defScope sBo) := ⟨rfl, rfl, rfl, by decide +kernel, rfl, by decide +kernel, by decide +kernel⟩
theorem row_open2 {cs : List Int} {gs : List Gp} (ok : InsOk cs gs) {k : Nat} {r : Rw} (h : (rowsTo cs gs gs.length)[k]? = some r) : ∃ (g : Gp) (f : Nat), gs[r.1]? = some g ∧ r.2.1 = (f : Int) ∧ f < cs.length ∧ r.1 < gs.length ∧ ∀ y, r.2.2.1 = some y → ∃ q : Nat, y = (q : Int) ∧ q < cs.length := by
  obtain ⟨g, hg, hr, hl⟩ := row_mem (List.mem_of_getElem? h)
  have hin := route_in ok (List.mem_of_getElem? hg) hr
  simp only at hin
  exact ⟨g, r.2.1.toNat, hg, by omega, by omega, hl, fun y hy => ⟨y.toNat, by have := hin.2 y hy; omega, by have := hin.2 y hy; omega⟩⟩
section
variable {P : Program} {w : World} {K : PySem.W.Frag} {mg : Str → Option Value} {base : Heap}
set_option maxHeartbeats 8000000 in
theorem ok_Ap {f fFa fWh : Addr} {fd fdFa fdWh : FuncData} (F : Fun K "_law_are_prices" "_law_are_prices" sAp f fd)
    (FFa : Fun K "_law_facts" "_law_facts" sFa fFa fdFa) (bFa : Binds K fdFa ["_law_instance"] []) (gFa : mg "_law_facts" = some (.ref fFa)) (GFa : FnOk P w K mg base CX0 1 fFa fdFa ["_law_instance"] (spFa K))
    (FWh : Fun K "_law_whole" "_law_whole" sWh fWh fdWh) (bWh : Binds K fdWh ["_law_value_here", "_law_low", "_law_high"] []) (gWh : mg "_law_whole" = some (.ref fWh)) (GWh : FnOk P w K mg base CX0 1 fWh fdWh ["_law_value_here", "_law_low", "_law_high"] (spWithin K))
    (m_tuple : mg "tuple" = none) (m_isinstance : mg "isinstance" = none) (m_len : mg "len" = none) (m_range : mg "range" = none) :
    FnOk P w K mg base CX0 2 f fd ["_law_instance", "_law_value_here"] (spVp K) := by
  refine F.ok scAp (fun vs H Q E h => ?_) (fun cdv A outer s H vs Q E hr h => ?_)
  · obtain ⟨st, r, i, v, cs, gs, d, rfl, _⟩ := h; rfl
  · obtain ⟨st, r, i, v, cs, gs, d, rfl, hI, ok, hv, q⟩ := h
    refine ⟨_, pss_cons (ps_if (PW.pt (pw_or (pt_not (pt_val (pe_callB call_isi (by rfl) m_isinstance (by decide +kernel) (pa_cons (pv 1) (pa_cons (pe_bltn (v := .ty "tuple") (by rfl) m_tuple (by decide +kernel) rfl) pa_nil))))) (pw_or1 (pt_cmpR op_ne (pe_callB call_lenQ (by rfl) m_len PySem.boot_len (pa_cons (pv 1) pa_nil)) (pe_int) (nomark _)))))
        (pss_one (ps_ret (pe_bl))) pss_nil)
      (pss_cons (ps_asg (pe_call GFa (hr.mono (by omega)) (by rfl) gFa FFa.kp bFa .nil pass0 (pa_cons (pv 0) pa_nil)) (pg_unl rfl (pgs_cons (pg_name (i := 2) scAp.nd rfl (.inl rfl)) (pgs_cons (pg_name (i := 3) scAp.nd rfl (.inl rfl)) (pgs_cons (pg_name (i := 4) scAp.nd rfl (.inl rfl)) (pgs_cons (pg_name (i := 5) scAp.nd rfl (.inl rfl)) (pgs_cons (pg_name (i := 6) scAp.nd rfl (.inl rfl)) (pgs_cons (pg_name (i := 7) scAp.nd rfl (.inl rfl)) pgs_nil))))))))
      (pss_cons (ps_for PassesOwn.never rfl (pi_range1 (by rfl) m_range (pa_cons (pe_int) pa_nil)) (pg_name (i := 8) scAp.nd rfl (.inl rfl))
        (pss_cons (ps_if (PW.pt (pw_or (pt_not (pt_val (pe_callB call_isi (by rfl) m_isinstance (by decide +kernel) (pa_cons (pe_ix ix_tup (pv 1) (pv 8) (fun _ _ => rfl)) (pa_cons (pe_bltn (v := .ty "tuple") (by rfl) m_tuple (by decide +kernel) rfl) pa_nil))))) (pw_or1 (pt_cmpR op_ne (pe_callB call_lenQ (by rfl) m_len PySem.boot_len (pa_cons (pe_ix ix_tup (pv 1) (pv 8) (fun _ _ => rfl)) pa_nil)) (pe_callB call_lenQ (by rfl) m_len PySem.boot_len (pa_cons (pv 7) pa_nil)) (nomark _)))))
          (pss_one (ps_ret (pe_bl))) pss_nil)
        (pss_one (ps_for PassesOwn.never rfl (pi_range1 (by rfl) m_range (pa_cons (pe_callB call_lenQ (by rfl) m_len PySem.boot_len (pa_cons (pv 7) pa_nil)) pa_nil)) (pg_name (i := 9) scAp.nd rfl (.inl rfl))
          (pss_cons (ps_if (pt_not (pt_val (pe_call GWh (hr.mono (by omega)) (by rfl) gWh FWh.kp bWh .nil pass0 (pa_cons (pe_ix ix_tup (pe_ix ix_tup (pv 1) (pv 8) (fun _ _ => rfl)) (pv 9) (fun _ _ => rfl)) (pa_cons (pe_ix ix_list (pe_lst (pa_cons (pe_op op_sub (pe_int) (pe_op op_pow (pe_int) (pe_int))) (pa_cons (pe_int) pa_nil))) (pv 8) (fun _ _ => rfl)) (pa_cons (pe_op op_pow (pe_int) (pe_int)) pa_nil))))))
            (pss_one (ps_ret (pe_bl))) pss_nil)
          (pss_one (ps_if (PW.pt (pw_and (pt_cmpR op_ne (pe_ix ix_tup (pe_ix ix_tup (pv 1) (pv 8) (fun _ _ => rfl)) (pv 9) (fun _ _ => rfl)) (pe_int) (nomark _)) (pw_and1 (pt_cmpR op_eq (pe_ix ix_list (pe_ix ix_list (pe_lst (pa_cons (pv 3) (pa_cons (pv 4) pa_nil))) (pv 8) (fun _ _ => rfl)) (pv 9) (fun _ _ => rfl)) (pe_int) (nomark _)))))
            (pss_one (ps_ret (pe_bl))) pss_nil)))))))
      (pss_one (ps_ret (pe_bl))))), ?_⟩
    by_cases hd0 : isTup d = true
    case neg =>
      refine ⟨v, rfl, v, .ty "tuple", _, _, _, rfl, .ty _, hv.ty, kit_tup d, _, rfl, iteTT (by simpa using hd0) ?_⟩
      have : prD cs gs d = false := by
        cases d with
        | tuple ds => exact absurd rfl hd0
        | _ => rfl
      rw [this] at q
      exact iteT (q _ (Same.refl _))
    refine ⟨v, rfl, v, .ty "tuple", _, _, _, rfl, .ty _, hv.ty, kit_tup d, _, rfl, ?_⟩
    obtain ⟨ds, rfl⟩ : ∃ ds, d = .tuple ds := by
      cases d with
      | tuple ds => exact ⟨ds, rfl⟩
      | _ => simp [isTup] at hd0
    obtain ⟨b, rfl, zs, hB, hzs⟩ : ∃ b, v = .ref b ∧ ∃ zs, SqT K H b zs ∧ DqAll K st r H zs ds := by
      cases hv with
      | tup h1 h2 => exact ⟨_, rfl, _, h1, h2⟩
    have lzs := DqAll.len hzs
    refine iteFF (by simp [isTup]) ?_
    refine ⟨.ref b, rfl, b, _, rfl, .inr hB, rfl, _, rfl, ite2 (fun h1 => ?_) (fun h1 => ?_)⟩
    · have h1 : ¬ ds.length = 2 := by simp at h1; omega
      have : prD cs gs (.tuple ds) = false := by
        unfold prD
        split
        · rename_i a b e; cases e; simp at h1
        · rfl
      rw [this] at q
      exact q _ (Same.refl _)
    have hdl : ds.length = 2 := by simp at h1; omega
    obtain ⟨da, db, rfl⟩ : ∃ da db, ds = [da, db] := by
      match ds, hdl with
      | [x, y], _ => exact ⟨x, y, rfl⟩
    obtain ⟨va, vb, rfl, ha, hb⟩ : ∃ va vb, zs = [va, vb] ∧ Dq K st r H va da ∧ Dq K st r H vb db := by
      cases hzs with
      | cons x1 h2 =>
        cases h2 with
        | cons x2 h2 => cases h2; exact ⟨_, _, rfl, x1, x2⟩
    rw [pr_sides] at q
    refine ⟨.ref i, rfl, i, cs, gs, rfl, hI, ok, fun H1 p d e f cr w ca' rs s1 fp fd0 Fc => ?_⟩
    refine ⟨p, _, rfl, SqL.of Fc.eP, rfl, _, _, rfl, _, _, rfl, _, _, rfl, _, _, rfl, _, _, rfl, _, _, rfl, rfl, ?_⟩
    have lE := rExc_len cs gs
    have lF := rFre_len cs gs
    have h6 := ok.c6
    refine ⟨_, rfl, by decide, by decide, for_it (walk_range (lo := 0) (n := ((2 : Int)).toNat))
      (fun j σ Hj => ∃ (y8 y9 : Option V), σ = [some (.ref i), some (.ref b), some (.ref d), some (.ref e), some (.ref f), some (.ref cr), some (.ref w), some (.ref ca'), y8, y9] ∧ Same H1 Hj ∧ (1 ≤ j → sideB (-1000000000000) (rExc cs gs) da = true) ∧ (2 ≤ j → sideB 0 (rFre cs gs) db = true))
      ⟨none, none, rfl, Same.refl _, fun h => by omega, fun h => by omega⟩ (fun _ _ _ _ _ => trivial) ?_ ?_⟩
    · rintro j v0 σ Hx Hj hlt ⟨y8, y9, rfl, sj, g1, g2⟩ ⟨rfl, rfl⟩
      have hj2 : j < 2 := hlt
      have side : ∃ (lo : Int) (ex : List Int) (eA : Addr) (dx : PyData) (vx : V), [va, vb][j]? = some vx ∧ [V.int (0 - (10 : Int) ^ (12 : Int).toNat), V.int 0][j]? = some (.int lo) ∧ [V.ref e, V.ref f][j]? = some (.ref eA) ∧ H1 eA = some (.lst (ex.map V.int)) ∧ ex.length = cs.length ∧ Dq K st r H vx dx ∧
          (sideB lo ex dx = false → (sideB (-1000000000000) (rExc cs gs) da && sideB 0 (rFre cs gs) db) = false) ∧ (sideB lo ex dx = true → (1 ≤ j + 1 → sideB (-1000000000000) (rExc cs gs) da = true) ∧ (2 ≤ j + 1 → sideB 0 (rFre cs gs) db = true)) := by
        obtain z | z : j = 0 ∨ j = 1 := by omega
        · subst z
          exact ⟨-1000000000000, rExc cs gs, e, da, va, rfl, rfl, rfl, Fc.eX, lE, ha, fun h => by rw [h]; rfl, fun h => ⟨fun _ => h, fun h2 => by omega⟩⟩
        · subst z
          exact ⟨0, rFre cs gs, f, db, vb, rfl, rfl, rfl, Fc.eF, lF, hb, fun h => by rw [h, Bool.and_false], fun h => ⟨fun _ => g1 (by omega), fun _ => h⟩⟩
      obtain ⟨lo, ex, eA, dx, vx, hval, hlo, hex, eL, lex, hdx, bad, good⟩ := side
      have sx := s1.trans sj
      have hBj := sqS sx hB
      have hcj := sqS sj Fc.ec
      rw [show (fun i : Nat => V.int (0 + (i : Int))) = fun i : Nat => V.int (i : Int) from funext fun i => by rw [Int.zero_add]]
      have hdj := hdx.lasts (.of sx)
      refine ⟨.ref b, rfl, .int (j : Nat), rfl, b, _, j, vx, rfl, rfl, hBj, atI_nat hval, vx, .ty "tuple", _, _, _, rfl, .ty _, hdj.ty, kit_tup dx, _, rfl, ?_⟩
      by_cases ht : isTup dx = true
      case neg =>
        refine iteTT (by simpa using ht) ?_
        have : sideB lo ex dx = false := by
          cases dx with
          | tuple ds => exact absurd rfl ht
          | _ => rfl
        rw [bad this] at q
        exact iteT (q _ sx)
      obtain ⟨es, rfl⟩ : ∃ es, dx = .tuple es := by
        cases dx with
        | tuple ds => exact ⟨ds, rfl⟩
        | _ => simp [isTup] at ht
      obtain ⟨bx, rfl, us, hBx, hus⟩ : ∃ bx, vx = .ref bx ∧ ∃ us, SqT K H bx us ∧ DqAll K st r H us es := by
        cases hdx with
        | tup h1 h2 => exact ⟨_, rfl, _, h1, h2⟩
      have lus := DqAll.len hus
      refine iteFF (by simp [isTup]) ?_
      refine ⟨.ref b, rfl, .int (j : Nat), rfl, b, _, j, .ref bx, rfl, rfl, hBj, atI_nat hval, bx, _, rfl, .inr (sqS sx hBx), .ref ca', rfl, ca', _, rfl, .inr hcj, rfl, _, rfl, ite2 (fun h2 => ?_) (fun h2 => ?_)⟩
      · have h2 : ¬ es.length = cs.length := by rw [List.length_map] at h2; simp at h2; omega
        have : sideB lo ex (.tuple es) = false := by
          have h3 : tupOfD (ex.length : Nat) (ex.length : Nat) (.tuple es) = false := decide_eq_false (by omega)
          unfold sideB
          rw [h3]; rfl
        rw [bad this] at q
        exact q _ sx
      have hel : es.length = cs.length := by rw [List.length_map] at h2; simp at h2; omega
      have hsb : sideB lo ex (.tuple es) = (ex.zip es).all (fun z => itemB lo z.1 z.2) := by
        have h3 : tupOfD (ex.length : Nat) (ex.length : Nat) (.tuple es) = true := decide_eq_true (by omega)
        unfold sideB
        rw [h3]; rfl
      refine ⟨.ref ca', rfl, ca', _, rfl, .inr hcj, _, rfl, by rw [List.length_map]; omega, by rw [List.length_map]; omega, for_it (walk_range (lo := 0) (n := (((cs.map V.int).length : Nat) : Int).toNat))
        (fun m σ Hm => ∃ (y9 : Option V), σ = [some (.ref i), some (.ref b), some (.ref d), some (.ref e), some (.ref f), some (.ref cr), some (.ref w), some (.ref ca'), some (.int (j : Nat)), y9] ∧ Same Hj Hm ∧ ∀ k, k < m → ∀ (x : Int) (d : PyData), ex[k]? = some x → es[k]? = some d → itemB lo x d = true)
        ⟨y9, rfl, Same.refl _, fun k h => by omega⟩ (fun _ _ _ _ _ => trivial) ?_ ?_⟩
      · rintro m v1 σ Hy Hm hltm ⟨y9, rfl, sm, hw⟩ ⟨rfl, rfl⟩
        rw [List.length_map] at hltm
        have hm : m < cs.length := by omega
        have s1m := sj.trans sm
        have sxm := sx.trans sm
        obtain ⟨x, hx⟩ : ∃ x, ex[m]? = some x := ⟨_, List.getElem?_eq_getElem (by omega)⟩
        obtain ⟨y, hy⟩ : ∃ y, us[m]? = some y := ⟨_, List.getElem?_eq_getElem (by omega)⟩
        obtain ⟨dy, hdy, hyd⟩ := DqAll.at hus hy
        have hz : (ex.zip es)[m]? = some (x, dy) := by rw [List.getElem?_zip_eq_some]; exact ⟨hx, hdy⟩
        have badI : itemB lo x dy = false → sideB lo ex (.tuple es) = false := fun h => by
          rw [hsb, List.all_eq_false]
          exact ⟨_, List.mem_of_getElem? hz, by simp [h]⟩
        have goodI : itemB lo x dy = true → ∀ k, k < m + 1 → ∀ (x : Int) (d : PyData), ex[k]? = some x → es[k]? = some d → itemB lo x d = true := fun h k hk x' d' h1 h2 => by
          by_cases hkm : k < m
          · exact hw k hkm x' d' h1 h2
          · have : k = m := by omega
            subst this
            rw [hx] at h1
            rw [hdy] at h2
            cases h1
            cases h2
            exact h
        rw [show (fun i : Nat => V.int (0 + (i : Int))) = fun i : Nat => V.int (i : Int) from funext fun i => by rw [Int.zero_add]]
        refine ⟨.ref b, rfl, .int (j : Nat), rfl, b, _, j, .ref bx, rfl, rfl, sqS sm hBj, atI_nat hval, .int (m : Nat), rfl, bx, _, m, y, rfl, rfl, sqS sxm hBx, atI_nat hy, ?_⟩
        refine ⟨_, _, rfl, rfl, ⟨by decide, by decide, by decide⟩, _, _, rfl, rfl, (show (2 : Nat) ≤ sizeLine by decide), fun L nL => ⟨.int (j : Nat), rfl, L, _, j, .int lo, rfl, rfl, SqL.of upd_same, atI_nat hlo, ?_⟩⟩
        have sL := sxm.trans (sameNew (o := .lst [V.int (0 - (10 : Int) ^ (12 : Int).toNat), V.int 0]) nL)
        have sL1 := s1m.trans (sameNew (o := .lst [V.int (0 - (10 : Int) ^ (12 : Int).toNat), V.int 0]) nL)
        have sLm := sm.trans (sameNew (o := .lst [V.int (0 - (10 : Int) ^ (12 : Int).toNat), V.int 0]) nL)
        generalize upd Hm L (.lst [V.int (0 - (10 : Int) ^ (12 : Int).toNat), V.int 0]) = Hn at sL sL1 sLm ⊢
        refine ⟨_, _, rfl, rfl, ⟨by decide, by decide, by decide⟩, st, r, y, dy, lo, 1000000000000, rfl, hyd.lasts (.of sL), ?_⟩
        cases hwi : withinD lo 1000000000000 dy with
        | false =>
          refine ⟨_, rfl, iteT ?_⟩
          rw [bad (badI (by unfold itemB; rw [hwi]; rfl))] at q
          exact q _ sL
        | true =>
        refine ⟨_, rfl, iteF ?_⟩
        obtain ⟨u, rfl⟩ : ∃ u, dy = .int u := by
          cases dy with
          | int u => exact ⟨u, rfl⟩
          | _ => simp [withinD] at hwi
        cases hyd
        refine ⟨.ref b, rfl, .int (j : Nat), rfl, b, _, j, .ref bx, rfl, rfl, sqS sL hB, atI_nat hval, .int (m : Nat), rfl, bx, _, m, .int u, rfl, rfl, sqS sL hBx, atI_nat hy, rfl, _, rfl, ?_⟩
        by_cases hu0 : u = 0
        · refine iteFF (by simp [hu0]) (iteF ⟨_, rfl, sLm, goodI ?_⟩)
          unfold itemB; rw [hwi]; simp [intAt, hu0]
        refine iteTT (by simp [hu0]) ?_
        refine ⟨.ref e, rfl, .ref f, rfl, (show (2 : Nat) ≤ sizeLine by decide), fun L2 nL2 => ⟨.int (j : Nat), rfl, L2, _, j, .ref eA, rfl, rfl, SqL.of upd_same, atI_nat hex, .int (m : Nat), rfl, eA, _, m, .int x, rfl, rfl, SqL.of (upNew nL2 (sL1 _ _ eL)), atI_nat (by rw [List.getElem?_map, hx]; rfl), rfl, _, rfl, ?_⟩⟩
        have s2 := sL.trans (sameNew (o := .lst [V.ref e, V.ref f]) nL2)
        have s3 := sLm.trans (sameNew (o := .lst [V.ref e, V.ref f]) nL2)
        by_cases hx0 : x = 0
        · refine iteTT (by simp [hx0]) ?_
          rw [bad (badI (by unfold itemB; rw [hwi]; simp [intAt, hu0, hx0]))] at q
          exact q _ s2
        · refine iteFF (by simp [hx0]) ⟨_, rfl, s3, goodI ?_⟩
          unfold itemB; rw [hwi]; simp [hx0]
      · rintro σ Hm ⟨y9, rfl, sm, hw⟩
        rw [List.length_map] at hw
        have hall : sideB lo ex (.tuple es) = true := by
          rw [hsb, List.all_eq_true]
          intro z hz
          obtain ⟨k, hk, e1⟩ := List.mem_iff_getElem.mp hz
          have h9 := List.getElem?_eq_getElem hk
          rw [e1, List.getElem?_zip_eq_some] at h9
          exact hw k (by rw [List.length_zip] at hk; omega) _ _ h9.1 h9.2
        obtain ⟨w1, w2⟩ := good hall
        exact ⟨_, _, rfl, sj.trans sm, w1, w2⟩
    · rintro σ Hx ⟨y8, y9, rfl, sj, g1, g2⟩
      rw [g1 (by decide), g2 (by decide)] at q
      exact q _ (s1.trans sj)
def spBo (K : PySem.W.Frag) : Sp := fun vs H Q _ => ∃ (i wA b pa pb : Addr) (cs ws us vs' : List Int) (gs : List Gp), vs = [.ref i, .ref wA, .ref b] ∧ Dp K H (.ref i) (dInst cs gs) ∧ InsOk cs gs ∧ SqT K H wA (ws.map V.int) ∧ ws.length = gs.length ∧ SqT K H b [.ref pa, .ref pb] ∧ SqT K H pa (us.map V.int) ∧ SqT K H pb (vs'.map V.int) ∧ us.length = cs.length ∧ vs'.length = cs.length ∧ (∀ u ∈ us, u.natAbs ≤ 10 ^ 12) ∧ (∀ u ∈ vs', u.natAbs ≤ 10 ^ 12) ∧
  ∀ H', Same H H' → Q (.int (bndOf cs gs ws us vs')) H'
set_option maxHeartbeats 8000000 in
theorem ok_Bo {f fFa : Addr} {fd fdFa : FuncData} (F : Fun K "_law_bound" "_law_bound" sBo f fd)
    (FFa : Fun K "_law_facts" "_law_facts" sFa fFa fdFa) (bFa : Binds K fdFa ["_law_instance"] []) (gFa : mg "_law_facts" = some (.ref fFa)) (GFa : FnOk P w K mg base CX0 1 fFa fdFa ["_law_instance"] (spFa K))
    (m_zip : mg "zip" = none) (m_sum : mg "sum" = none) (m_max : mg "max" = none) :
    FnOk P w K mg base CX0 2 f fd ["_law_instance", "_law_weights_here", "_law_prices_here"] (spBo K) := by
  refine F.ok scBo (fun vs H Q E h => ?_) (fun cdv A outer s H vs Q E hr h => ?_)
  · obtain ⟨i, wA, b, pa, pb, cs, ws, us, vs', gs, rfl, _⟩ := h; rfl
  · obtain ⟨i, wA, b, pa, pb, cs, ws, us, vs', gs, rfl, hI, ok, hW, lw, hB, hA, hP, lu, lv, bu, bv, q⟩ := h
    refine ⟨_, pss_cons (ps_asg (pe_call GFa (hr.mono (by omega)) (by rfl) gFa FFa.kp bFa .nil pass0 (pa_cons (pv 0) pa_nil)) (pg_unl rfl (pgs_cons (pg_name (i := 3) scBo.nd rfl (.inl rfl)) (pgs_cons (pg_name (i := 4) scBo.nd rfl (.inl rfl)) (pgs_cons (pg_name (i := 5) scBo.nd rfl (.inl rfl)) (pgs_cons (pg_name (i := 6) scBo.nd rfl (.inl rfl)) (pgs_cons (pg_name (i := 7) scBo.nd rfl (.inl rfl)) (pgs_cons (pg_name (i := 8) scBo.nd rfl (.inl rfl)) pgs_nil))))))))
      (pss_cons (ps_set (i := 9) scBo.nd rfl (.inl rfl) (pe_callB (cr_sum rfl) (by rfl) m_sum (by decide +kernel) (pa_cons (pe_lc (own := [("_law_one", 14), ("_law_other", 15)]) (g := gTup K 2 (gCons (gName 14) (gCons (gName 15) gNil))) (tt := tYes) (te := tOp (rI CMul fun i j => .int (i * j)) (tVar 14) (tVar 15)) rfl scBo.nd (pi_zipM (by rfl) m_zip (pa_cons (pv 4) (pa_cons (pe_ix ix_tup (pv 2) (pe_int) (fun _ _ => rfl)) pa_nil))) (blkOk_by (N := ["_law_instance", "_law_weights_here", "_law_prices_here", "_law_demand", "_law_excess", "_law_free", "_law_crowded", "_law_rows", "_law_capacities", "_law_found", "_law_group", "_law_first", "_law_reserve", "_law_price", "_law_one", "_law_other"]) (sc := defScope sBo) (by decide +kernel)) (fun _ _ _ _ _ => pg_tup rfl (pgs_cons (pg_name (i := 14) scBo.nd rfl (.inl rfl)) (pgs_cons (pg_name (i := 15) scBo.nd rfl (.inl rfl)) pgs_nil))) (fun _ _ _ _ _ => pts_nil) (fun _ _ _ _ _ => pe_op op_mul (pv 14) (pv 15))) pa_nil)))
      (pss_cons (ps_set (i := 9) scBo.nd rfl (.inl rfl) (pe_op op_add (pv 9) (pe_callB (cr_sum rfl) (by rfl) m_sum (by decide +kernel) (pa_cons (pe_lc (own := [("_law_one", 14), ("_law_other", 15)]) (g := gTup K 2 (gCons (gName 14) (gCons (gName 15) gNil))) (tt := tYes) (te := tOp (rI CMul fun i j => .int (i * j)) (tVar 14) (tVar 15)) rfl scBo.nd (pi_zipM (by rfl) m_zip (pa_cons (pv 5) (pa_cons (pe_ix ix_tup (pv 2) (pe_int) (fun _ _ => rfl)) pa_nil))) (blkOk_by (N := ["_law_instance", "_law_weights_here", "_law_prices_here", "_law_demand", "_law_excess", "_law_free", "_law_crowded", "_law_rows", "_law_capacities", "_law_found", "_law_group", "_law_first", "_law_reserve", "_law_price", "_law_one", "_law_other"]) (sc := defScope sBo) (by decide +kernel)) (fun _ _ _ _ _ => pg_tup rfl (pgs_cons (pg_name (i := 14) scBo.nd rfl (.inl rfl)) (pgs_cons (pg_name (i := 15) scBo.nd rfl (.inl rfl)) pgs_nil))) (fun _ _ _ _ _ => pts_nil) (fun _ _ _ _ _ => pe_op op_mul (pv 14) (pv 15))) pa_nil))))
      (pss_cons (ps_for PassesOwn.never rfl (pi_list (pv 7)) (pg_tup rfl (pgs_cons (pg_name (i := 10) scBo.nd rfl (.inl rfl)) (pgs_cons (pg_name (i := 11) scBo.nd rfl (.inl rfl)) (pgs_cons (pg_name (i := 12) scBo.nd rfl (.inl rfl)) pgs_nil))))
        (pss_cons (ps_set (i := 13) scBo.nd rfl (.inl rfl) (pe_op op_add (pe_ix ix_tup (pe_ix ix_tup (pv 2) (pe_int) (fun _ _ => rfl)) (pv 11) (fun _ _ => rfl)) (pe_ifExp (pt_cmp (pc_isN (pv 12))) (pe_int) (pe_ix ix_tup (pe_ix ix_tup (pv 2) (pe_int) (fun _ _ => rfl)) (pv 12) (fun _ _ => rfl)))))
        (pss_one (ps_set (i := 9) scBo.nd rfl (.inl rfl) (pe_op op_add (pv 9) (pe_op op_mul (pe_ix ix_tup (pe_ix ix_tup (pe_ix ix_tup (pv 0) (pe_int) (fun _ _ => rfl)) (pv 10) (fun _ _ => rfl)) (pe_int) (fun _ _ => rfl)) (pe_callB (call_max2 rfl) (by rfl) m_max (by decide +kernel) (pa_cons (pe_int) (pa_cons (pe_op op_sub (pe_ix ix_tup (pv 1) (pv 10) (fun _ _ => rfl)) (pv 13)) pa_nil)))))))))
      (pss_one (ps_ret (pv 9)))))), ?_⟩
    have h6 := ok.c6
    have h10 := ok.g10
    refine ⟨.ref i, rfl, i, cs, gs, rfl, hI, ok, fun H1 p d e f cr w ca' rs s1 fp fd0 Fc => ?_⟩
    refine ⟨p, _, rfl, SqL.of Fc.eP, rfl, _, _, rfl, _, _, rfl, _, _, rfl, _, _, rfl, _, _, rfl, _, _, rfl, rfl, ?_⟩
    have lE := rExc_len cs gs
    have lF := rFre_len cs gs
    refine ⟨.ref e, rfl, .ref b, rfl, b, _, 0, .ref pa, rfl, rfl, sqS s1 hB, atI_nat (j := 0) rfl, e, pa, _, _, rfl, SqL.of Fc.eX, sqS s1 hA, fun D nD => lc_it (walk_zipM (K := K) (a := e) (b := pa) (xs := (rExc cs gs).map V.int) (ys := us.map V.int) rfl) (LcP H1 D ((rExc cs gs).zip us) (fun z => some (.int (z.1 * z.2)))) (.start nD) (fun j Hj _ h => ⟨SqL.of (h.1 _ _ Fc.eX), sqS (s1.trans h.1) hA⟩) ?_ ?_⟩
    · rintro j x H4 H5 hlt hL ⟨T, x, y, rfl, nT, rfl, hx, hy⟩
      obtain ⟨x1, y1, rfl, rfl, hz, hx1, hy1⟩ := zat hx hy
      have hj := (List.getElem?_eq_some_iff.mp hx1).1
      exact ⟨T, _, rfl, SqT.of upd_same, rfl, _, _, rfl, _, _, rfl, rfl, rfl, .int x1, rfl, .int y1, rfl, _, _, rfl, rfl, cmulR (bu y1 (List.mem_of_getElem? hy1)), hL.yes nD (sameNew nT) hz rfl (by omega)⟩
    rintro H3 hL
    have eD := hL.done (by rw [List.length_map, List.length_map, List.length_zip]; exact Nat.le_refl _)
    rw [fm_dot] at eD
    have F3 := Fc.same hL.1
    have s03 := s1.trans hL.1
    refine ⟨D, _, rfl, SqL.of eD, ?_⟩
    clear hL eD
    refine ⟨_, rfl, .ref f, rfl, .ref b, rfl, b, _, 1, .ref pb, rfl, rfl, sqS s03 hB, atI_nat (j := 1) rfl, f, pb, _, _, rfl, SqL.of F3.eF, sqS s03 hP, fun D2 nD2 => lc_it (walk_zipM (K := K) (a := f) (b := pb) (xs := (rFre cs gs).map V.int) (ys := vs'.map V.int) rfl) (LcP H3 D2 ((rFre cs gs).zip vs') (fun z => some (.int (z.1 * z.2)))) (.start nD2) (fun j Hj _ h => ⟨SqL.of (h.1 _ _ F3.eF), sqS (s03.trans h.1) hP⟩) ?_ ?_⟩
    · rintro j x H4 H5 hlt hL ⟨T, x, y, rfl, nT, rfl, hx, hy⟩
      obtain ⟨x1, y1, rfl, rfl, hz, hx1, hy1⟩ := zat hx hy
      have hj := (List.getElem?_eq_some_iff.mp hx1).1
      exact ⟨T, _, rfl, SqT.of upd_same, rfl, _, _, rfl, _, _, rfl, rfl, rfl, .int x1, rfl, .int y1, rfl, _, _, rfl, rfl, cmulR (bv y1 (List.mem_of_getElem? hy1)), hL.yes nD2 (sameNew nT) hz rfl (by omega)⟩
    rintro H5 hL
    have eD := hL.done (by rw [List.length_map, List.length_map, List.length_zip]; exact Nat.le_refl _)
    rw [fm_dot] at eD
    have F5 := F3.same hL.1
    have s05 := s03.trans hL.1
    refine ⟨D2, _, rfl, SqL.of eD, _, _, rfl, rfl, ?_⟩
    clear hL eD
    obtain ⟨_, ca, ga, ys, e0, hi, hcc, hgt, hgs⟩ := inst_open hI
    cases e0
    have hrs := F5.rw
    generalize hRR : rowsTo cs gs gs.length = RR at hrs
    refine ⟨.ref w, rfl, w, rfl, ⟨_, SqL.of F5.eW⟩, for_it (walk_list (K := K) (a := w) (xs := rs))
      (fun j σ Hj => ∃ (y10 y11 y12 y13 : Option V), σ = [some (.ref i), some (.ref wA), some (.ref b), some (.ref d), some (.ref e), some (.ref f), some (.ref cr), some (.ref w), some (.ref ca'), some (.int (dotL (rExc cs gs) us + dotL (rFre cs gs) vs' + ((RR.take j).map (rowF gs ws us vs')).sum)), y10, y11, y12, y13, none, none] ∧ Same H5 Hj)
      ⟨none, none, none, none, by rw [List.take_zero, List.map_nil, List.sum_nil, Int.add_zero]; rfl, Same.refl _⟩ (fun j σ Hj _ h => by obtain ⟨_, _, _, _, _, s⟩ := h; exact SqL.of (s _ _ F5.eW)) ?_ ?_⟩
    · rintro j v σ Hx Hj hlt ⟨y10, y11, y12, y13, rfl, sj⟩ ⟨rfl, hx⟩
      have sx := s05.trans sj
      obtain ⟨r0, hr0, hrv⟩ := hrs.at hx
      obtain ⟨T, rfl, hT⟩ := hrv.tk (TupK.of sj)
      have hR2 := hr0
      rw [← hRR] at hR2
      have row := row_open2 ok hR2
      obtain ⟨g, fi0, hgr, ef, hfl, hgl, hoq⟩ := row
      obtain ⟨gA, pA, hxg, hG, hPp⟩ := grp_at hgs hgr
      have gp := (ok.gp g (List.mem_of_getElem? hgr)).2.2
      have hsum : ((RR.take (j + 1)).map (rowF gs ws us vs')).sum = ((RR.take j).map (rowF gs ws us vs')).sum + rowF gs ws us vs' r0 := by
        rw [take_snoc hr0, List.map_append, List.sum_append]; simp
      have hF : rowF gs ws us vs' r0 = g.2 * (if ws.getD r0.1 0 - costOf us vs' (r0.2.1, r0.2.2.1) > 0 then ws.getD r0.1 0 - costOf us vs' (r0.2.1, r0.2.2.1) else 0) := by
        unfold rowF mx
        rw [List.getD_eq_getElem?_getD, hgr]; rfl
      rw [ef] at hT
      refine ⟨T, _, rfl, hT, rfl, _, _, rfl, _, _, rfl, _, _, rfl, rfl, ?_⟩
      refine ⟨.ref b, rfl, b, _, 0, .ref pa, rfl, rfl, sqS sx hB, atI_nat (j := 0) rfl, .int (fi0 : Nat), rfl, pa, _, fi0, .int (us.getD fi0 0), rfl, rfl, sqS sx hA, atI_nat (atD2 (by omega)), ?_⟩
      refine ⟨oV r0.2.2.1, rfl, _, rfl, ?_⟩
      cases ho : r0.2.2.1 with
      | none =>
        refine iteT ⟨_, _, rfl, rfl, ?_⟩
        refine ⟨_, rfl, .ref i, rfl, i, _, 1, .ref ga, rfl, rfl, sqS sx hi, atI_nat (j := 1) rfl, .int (r0.1 : Nat), rfl, ga, _, r0.1, .ref gA, rfl, rfl, sqS sx hgt, atI_nat hxg, gA, _, 1, .int g.2, rfl, rfl, sqS sx hG, atI_nat (j := 1) rfl, .ref wA, rfl, .int (r0.1 : Nat), rfl, wA, _, r0.1, .int (ws.getD r0.1 0), rfl, rfl, sqS sx hW, atI_nat (atD2 (by omega)), .int (us.getD fi0 0 + 0), rfl, _, _, rfl, rfl, _, _, rfl, _, _, rfl, rfl, cmulL (by omega), _, _, rfl, rfl, some (.int (r0.1 : Nat)), some (.int (fi0 : Nat)), some .non, some (.int (us.getD fi0 0 + 0)), ?_, sj⟩
        rw [hsum, hF, ho, ef, ← Int.add_assoc]
        rfl
      | some y =>
        obtain ⟨yn, rfl, hyn⟩ := hoq y ho
        refine iteF ⟨.ref b, rfl, b, _, 1, .ref pb, rfl, rfl, sqS sx hB, atI_nat (j := 1) rfl, .int (yn : Nat), rfl, pb, _, yn, .int (vs'.getD yn 0), rfl, rfl, sqS sx hP, atI_nat (atD2 (by omega)), _, _, rfl, rfl, ?_⟩
        refine ⟨_, rfl, .ref i, rfl, i, _, 1, .ref ga, rfl, rfl, sqS sx hi, atI_nat (j := 1) rfl, .int (r0.1 : Nat), rfl, ga, _, r0.1, .ref gA, rfl, rfl, sqS sx hgt, atI_nat hxg, gA, _, 1, .int g.2, rfl, rfl, sqS sx hG, atI_nat (j := 1) rfl, .ref wA, rfl, .int (r0.1 : Nat), rfl, wA, _, r0.1, .int (ws.getD r0.1 0), rfl, rfl, sqS sx hW, atI_nat (atD2 (by omega)), .int (us.getD fi0 0 + vs'.getD yn 0), rfl, _, _, rfl, rfl, _, _, rfl, _, _, rfl, rfl, cmulL (by omega), _, _, rfl, rfl, some (.int (r0.1 : Nat)), some (.int (fi0 : Nat)), some (.int (yn : Nat)), some (.int (us.getD fi0 0 + vs'.getD yn 0)), ?_, sj⟩
        rw [hsum, hF, ho, ef, ← Int.add_assoc]
        rfl
    · rintro σ Hx ⟨y10, y11, y12, y13, rfl, sj⟩
      refine ⟨_, rfl, ?_⟩
      have := q Hx (s05.trans sj)
      rw [List.take_of_length_le (by rw [hrs.1]; exact Nat.le_refl _), ← hRR, rows_bnd]
      exact this
end
end Pv

namespace Pv
open PySem PySem.Spec PyProof.Rows L2
/-! a comprehension whose elements show what R tells, as long as the lists that are not X stand -/
def LcX {α β : Type} (R : Hp → V → β → Prop) (H1 : Hp) (D : Addr) (zs : List α) (F : α → Option β) (i : Nat) (H : Hp) : Prop := Same H1 H ∧ ∃ vs, H D = some (.lst vs) ∧ Rl (R H) vs ((zs.take i).filterMap F)
section
variable {α β : Type} {X : Addr → Prop} {R : Hp → V → β → Prop} {H1 H H' : Hp} {D : Addr} {zs : List α} {F : α → Option β} {i : Nat} {x : α} {y : V} {b : β}
theorem LcX.start (nD : H1 D = none) : LcX R H1 D zs F 0 (upd H1 D (.lst [])) := ⟨sameNew nD, [], upd_same, by simpa using Rl.nil⟩
theorem LcX.yes (hR : ∀ H H' v b, LX X H H' → R H v b → R H' v b) (hX : X D) (h : LcX R H1 D zs F i H) (nD : H1 D = none) (s : Same H H') (hx : zs[i]? = some x) (hF : F x = some b) (hy : R H' y b) (hi : i ≤ 1000000) : ∃ acc, H' D = some (.lst acc) ∧ acc.length < sizeLine ∧ LcX R H1 D zs F (i + 1) (upd H' D (.lst (acc ++ [y]))) := by
  obtain ⟨s1, vs, e, hv⟩ := h
  have e' := s _ _ e
  refine ⟨vs, e', ?_, samePut (s1.trans s) nD, vs ++ [y], upd_same, ?_⟩
  · have h1 := List.length_filterMap_le F (zs.take i)
    have h2 := List.length_take_le i zs
    rw [hv.1]
    exact small (by omega)
  · have tk : LX X H' (upd H' D (.lst (vs ++ [y]))) := .put e' hX
    rw [take_snoc hx, List.filterMap_append]
    simp only [List.filterMap_cons, hF, List.filterMap_nil]
    exact Rl.snoc (hv.mono fun v r h => hR _ _ _ _ ((LX.of s).trans tk) h) (hR _ _ _ _ tk hy)
theorem LcX.no (hR : ∀ H H' v b, LX X H H' → R H v b → R H' v b) (h : LcX R H1 D zs F i H) (s : Same H H') (hx : zs[i]? = some x) (hF : F x = none) : LcX R H1 D zs F (i + 1) H' := by
  obtain ⟨s1, vs, e, hv⟩ := h
  refine ⟨s1.trans s, vs, s _ _ e, ?_⟩
  rw [take_snoc hx, List.filterMap_append]
  simp only [List.filterMap_cons, hF, List.filterMap_nil, List.append_nil]
  exact hv.mono fun v r h => hR _ _ _ _ (.of s) h
theorem LcX.done (h : LcX R H1 D zs F i H) (hi : zs.length ≤ i) : ∃ vs, H D = some (.lst vs) ∧ Rl (R H) vs (zs.filterMap F) := by
  obtain ⟨_, vs, e, hv⟩ := h
  rw [List.take_of_length_le hi] at hv
  exact ⟨vs, e, hv⟩
end
theorem fm_mapI {α : Type} (f : α → Int) (l : List α) : l.filterMap (fun x => some (V.int (f x))) = (l.map f).map V.int := by rw [fm_map, List.map_map]; rfl
/-! cuts in the heap -/
def CuV (X : Addr → Prop) (K : PySem.W.Frag) (H : Hp) (v : V) (c : Int × List Int) : Prop := ∃ T q, v = .ref T ∧ SqT K H T [.int c.1, .ref q] ∧ ¬ X q ∧ H q = some (.lst (c.2.map V.int))
theorem CuV.lx {X : Addr → Prop} {K : PySem.W.Frag} {H H' : Hp} {v : V} {c : Int × List Int} (h : CuV X K H v c) (l : LX X H H') : CuV X K H' v c := by
  obtain ⟨T, q, e, h1, h2, h3⟩ := h; exact ⟨T, q, e, l.tk.sq h1, h2, l.ls _ _ h3 h2⟩
theorem CuV.weak {X X' : Addr → Prop} {K : PySem.W.Frag} {H : Hp} {v : V} {c : Int × List Int} (h : CuV X K H v c) (w : ∀ a, X' a → X a) : CuV X' K H v c := by
  obtain ⟨T, q, e, h1, h2, h3⟩ := h; exact ⟨T, q, e, h1, fun z => h2 (w _ z), h3⟩
theorem RtAll.at {K : PySem.W.Frag} {H : Hp} {vs : List V} {rs : List Rt} {j : Nat} {v : V} (h : RtAll K H vs rs) (hv : vs[j]? = some v) : ∃ r, rs[j]? = some r ∧ RtV K H v r := by
  have hj : j < rs.length := by rw [← h.1]; exact (List.getElem?_eq_some_iff.mp hv).1
  exact ⟨rs[j], List.getElem?_eq_getElem hj, h.2 j v _ hv (List.getElem?_eq_getElem hj)⟩
/-! the program's numbers -/
def spareL (cs : List Int) (gs : List Gp) : List Int := (cs.zip (rDem cs gs)).map fun q => q.1 - q.2
theorem spareL_len (cs : List Int) (gs : List Gp) : (spareL cs gs).length = cs.length := by simp [spareL, rDem_len]
theorem spareL_at {cs : List Int} {gs : List Gp} {p : Nat} (h : p < cs.length) : (spareL cs gs)[p]'(by rw [spareL_len]; exact h) = spOf cs gs p := by
  have hd : p < (rDem cs gs).length := by rw [rDem_len]; exact h
  have e : (spareL cs gs)[p]? = some (cs[p] - (rDem cs gs)[p]) := by
    unfold spareL
    rw [List.getElem?_map, (List.getElem?_zip_eq_some.mpr ⟨List.getElem?_eq_getElem h, List.getElem?_eq_getElem hd⟩ : (cs.zip (rDem cs gs))[p]? = some (cs[p], (rDem cs gs)[p]))]
    rfl
  have e2 : (spareL cs gs)[p]? = some ((spareL cs gs)[p]'(by rw [spareL_len]; exact h)) := List.getElem?_eq_getElem _
  rw [e] at e2
  rw [← Option.some.inj e2]
  unfold spOf
  rw [Int.toNat_natCast, List.getD_eq_getElem?_getD, List.getD_eq_getElem?_getD, List.getElem?_eq_getElem h, List.getElem?_eq_getElem hd]
  rfl
/-- the posts by their spare places -/
theorem spare_posts (cs : List Int) (gs : List Gp) (f : Int → Bool) : ((List.range (spareL cs gs).length).filterMap fun (k : Nat) => if f ((spareL cs gs).getD k 0) = true then some (k : Int) else none) = ((List.range cs.length).map (fun (k : Nat) => (k : Int))).filter (fun p => f (spOf cs gs p)) := by
  rw [spareL_len, List.filter_map]
  have : ∀ l : List Nat, (∀ k ∈ l, k < cs.length) → (l.filterMap fun (k : Nat) => if f ((spareL cs gs).getD k 0) = true then some (k : Int) else none) = (l.filter ((fun p => f (spOf cs gs p)) ∘ fun (k : Nat) => (k : Int))).map (fun (k : Nat) => (k : Int)) := by
    intro l
    induction l with
    | nil => intro _; rfl
    | cons k l ih =>
      intro h
      have hk := h k (by simp)
      have e : (spareL cs gs).getD k 0 = spOf cs gs k := by rw [List.getD_eq_getElem?_getD, List.getElem?_eq_getElem (by rw [spareL_len]; exact hk), Option.getD_some, spareL_at hk]
      have ih := ih fun k hk => h k (by simp [hk])
      by_cases hf : f (spOf cs gs k) = true
      · rw [List.filterMap_cons_some (b := (k : Int)) (by rw [e, if_pos hf]), ih, List.filter_cons_of_pos (by simpa using hf)]; rfl
      · rw [List.filterMap_cons_none (by rw [e, if_neg hf]), ih, List.filter_cons_of_neg (by simpa using hf)]
  exact this _ fun k hk => List.mem_range.mp hk
theorem cro_list (cs : List Int) (gs : List Gp) : rCro cs gs = ((List.range cs.length).map (fun (k : Nat) => (k : Int))).filter (fun p => decide (spOf cs gs p < 0)) := by
  unfold rCro sel
  rw [List.filter_map]
  congr 1
  apply List.filter_congr
  intro k hk
  have hk := List.mem_range.mp hk
  rw [Function.comp, List.getD_eq_getElem?_getD, List.getElem?_eq_getElem (by rw [rExc_len]; exact hk), Option.getD_some, (exc_get hk).1, decide_eq_decide]
  unfold mx
  split <;> omega
theorem feas0 {cs : List Int} {gs : List Gp} (ok : InsOk cs gs) (h : ∀ s ∈ subsL (nzP cs gs), 0 ≤ FS (nzP cs gs) (spOf cs gs) (mem s) (es0 cs gs)) : FeasI cs gs (es0 cs gs) := by
  refine ⟨fun m => ?_, fun p hp => ?_, ?_⟩
  · rw [← FS_mem (rin_es0 ok)]; exact h _ (subs_all m _)
  · have hp := cro_mem.mp hp
    unfold PS
    rw [sum_zero fun e he => ?_]
    · omega
    · obtain ⟨g, hg, rfl⟩ := List.mem_map.mp he
      unfold lP
      split
      · split <;> rfl
      · rfl
  · unfold ZS
    rw [sum_zero fun e he => ?_]
    · decide
    · obtain ⟨g, hg, rfl⟩ := List.mem_map.mp he
      unfold lZ
      split <;> rfl
theorem ZS0 (cs : List Int) (gs : List Gp) : ZS (es0 cs gs) = 0 := by
  unfold ZS
  rw [sum_zero fun e he => ?_]
  · rfl
  · obtain ⟨g, hg, rfl⟩ := List.mem_map.mp he
    unfold lZ
    split <;> rfl
theorem PS0 (cs : List Int) (gs : List Gp) (p : Int) : PS (spOf cs gs) p (es0 cs gs) = - spOf cs gs p := by
  unfold PS
  rw [sum_zero fun e he => ?_]
  · omega
  · obtain ⟨g, hg, rfl⟩ := List.mem_map.mp he
    unfold lP
    split
    · split <;> rfl
    · rfl
/-- the slack of a set of posts, as the program adds it up -/
theorem FS0 {cs : List Int} {gs : List Gp} {s : List Int} (hs : s ∈ subsL (nzP cs gs)) : FS (nzP cs gs) (spOf cs gs) (mem s) (es0 cs gs) = (s.map (spOf cs gs)).sum + ((gs.filter (fun g => decide (sg (mem s) (routeOf cs gs g) < 0))).map (fun g => g.2)).sum := by
  unfold FS spareS
  rw [subs_is (nz_nodup cs gs) hs]
  congr 1
  unfold es0
  rw [List.map_map]
  clear hs
  generalize routeOf cs gs = ro
  induction gs with
  | nil => rfl
  | cons g gs ih =>
    simp only [List.map_cons, List.sum_cons, Function.comp] at ih ⊢
    rw [ih]
    by_cases h : sg (mem s) (ro g) < 0
    · rw [List.filter_cons_of_pos (by simpa using h)]
      simp [wE, h]
    · rw [List.filter_cons_of_neg (by simpa using h)]
      have : wE (mem s) (ro g, 0, g.2) = 0 := by unfold wE; simp [h]
      rw [this]; omega
theorem sg_val (s : List Int) (r : Int × Option Int) : sg (mem s) (some r) = (if inV (oV r.2) (s.map V.int) = true then 1 else 0) - (if inV (.int r.1) (s.map V.int) = true then 1 else 0) := by
  have h1 : inV (.int r.1) (s.map V.int) = mem s r.1 := inV_ints _ _
  have h2 : inV (oV r.2) (s.map V.int) = inb (mem s) r.2 := by
    cases hr : r.2 with
    | none => exact inV_opt [] s
    | some y => exact inV_ints _ _
  rw [h1, h2]; rfl
theorem fmCongr {α β : Type} {f g : α → Option β} : ∀ {l : List α}, (∀ x ∈ l, f x = g x) → l.filterMap f = l.filterMap g
  | [], _ => rfl
  | x :: l, h => by
    have h1 := h x (by simp)
    have h2 := fmCongr (l := l) fun y hy => h y (by simp [hy])
    simp only [List.filterMap_cons, h1, h2]
def cutF (cs : List Int) (gs : List Gp) : List (Int × List Int) := [(0, (gs.map (routeOf cs gs)).map zSg)] ++ (rCro cs gs).map (fun p => (- spOf cs gs p, (gs.map (routeOf cs gs)).map (stSg p))) ++ (subsL (nzP cs gs)).map (fun s => (FS (nzP cs gs) (spOf cs gs) (mem s) (es0 cs gs), (gs.map (routeOf cs gs)).map (sg (mem s))))
theorem cutF_slk (cs : List Int) (gs : List Gp) : (cutF cs gs).map (fun c => c.1) = slk (nzP cs gs) (spOf cs gs) (rCro cs gs) (es0 cs gs) := by
  simp [cutF, slk, ZS0, PS0, Function.comp_def]
theorem cutF_sgn {cs : List Int} {gs : List Gp} {j : Nat} (hj : j < gs.length) : (cutF cs gs).map (fun c => c.2.getD j 0) = sgn (nzP cs gs) (rCro cs gs) (routeOf cs gs gs[j]) := by
  simp [cutF, sgn, Function.comp_def, List.getElem?_eq_getElem hj]
theorem cutF_len {cs : List Int} {gs : List Gp} {c : Int × List Int} (h : c ∈ cutF cs gs) : c.2.length = gs.length := by
  unfold cutF at h
  rcases List.mem_append.mp h with h | h
  · rcases List.mem_append.mp h with h | h
    · simp at h; subst h; simp
    · obtain ⟨p, _, rfl⟩ := List.mem_map.mp h; simp
  · obtain ⟨s, _, rfl⟩ := List.mem_map.mp h; simp
/-! lists in a list -/
def QV (X : Addr → Prop) (H : Hp) (v : V) (ns : List Int) : Prop := ∃ q, v = .ref q ∧ ¬ X q ∧ H q = some (.lst (ns.map V.int))
theorem QV.lx {X : Addr → Prop} {H H' : Hp} {v : V} {ns : List Int} (h : QV X H v ns) (l : LX X H H') : QV X H' v ns := by
  obtain ⟨q, e, h1, h2⟩ := h; exact ⟨q, e, h1, l.ls _ _ h2 h1⟩
theorem QV.rows {X : Addr → Prop} {H : Hp} {vs : List V} {nss : List (List Int)} (h : Rl (QV X H) vs nss) : ∃ rows : List Addr, vs = rows.map V.ref ∧ rows.length = nss.length ∧ ∀ (k : Nat) (q : Addr) (ns : List Int), rows[k]? = some q → nss[k]? = some ns → H q = some (.lst (ns.map V.int)) := by
  let f : V → Addr := fun v => match v with | .ref a => a | _ => 0
  have hv : vs = (vs.map f).map V.ref := by
    apply List.ext_getElem
    · simp
    · intro k h1 h2
      obtain ⟨ns, _, q, e, _⟩ := h.at (List.getElem?_eq_getElem h1)
      simp only [List.getElem_map]
      rw [e]
  refine ⟨vs.map f, hv, by rw [List.length_map, h.1], fun k q ns h1 h2 => ?_⟩
  rw [List.getElem?_map] at h1
  obtain ⟨v, hv', e⟩ := Option.map_eq_some_iff.mp h1
  obtain ⟨q', e', _, h3⟩ := h.2 k v ns hv' h2
  subst e'
  have : q' = q := e
  subst this
  exact h3
end Pv

namespace Pv
open PySem PySem.Spec PyProof.Rows L2
/-! shortfalls: the posts with room, choices of posts, escapes, and the least of the open options -/
def rUnc (cs : List Int) (gs : List Gp) : List Int := ((List.range cs.length).map (fun (k : Nat) => (k : Int))).filter fun p => decide (0 < spOf cs gs p)
def ascB : List Int → Bool
  | [] => true
  | [_] => true
  | x :: y :: l => decide (x < y) && ascB (y :: l)
def rtB (ps : List Int) (d : PyData) : Bool := match intsOf d with | some xs => xs.all ps.contains && ascB xs | none => false
theorem asc_pw : ∀ {xs : List Int}, ascB xs = true ↔ xs.Pairwise (· < ·)
  | [] => by simp [ascB]
  | [x] => by simp [ascB]
  | x :: y :: l => by
    rw [ascB, Bool.and_eq_true, decide_eq_true_eq, asc_pw (xs := y :: l), List.pairwise_cons (a := x)]
    constructor
    · rintro ⟨h, p⟩
      refine ⟨fun z hz => ?_, p⟩
      rcases List.mem_cons.mp hz with rfl | hz
      · exact h
      · exact Int.lt_trans h (List.rel_of_pairwise_cons p hz)
    · rintro ⟨h, p⟩
      exact ⟨h y (List.mem_cons_self ..), p⟩
theorem lt_nodup {xs : List Int} (h : xs.Pairwise (· < ·)) : xs.Nodup := h.imp (fun h e => by omega)
theorem sub_len : ∀ {xs ps : List Int}, xs.Nodup → (∀ x ∈ xs, x ∈ ps) → xs.length ≤ ps.length
  | [], _, _, _ => Nat.zero_le _
  | x :: xs, ps, hn, hs => by
    have hx := hs x (List.mem_cons_self ..)
    have hn' := List.nodup_cons.mp hn
    have := sub_len (ps := ps.erase x) hn'.2 (fun y hy => (List.mem_erase_of_ne (fun (e : y = x) => hn'.1 (by rw [← e]; exact hy))).mpr (hs y (List.mem_cons_of_mem _ hy)))
    rw [List.length_erase_of_mem hx] at this
    have : 0 < ps.length := List.length_pos_of_mem hx
    rw [List.length_cons]; omega
theorem asc_len {xs ps : List Int} (h : ascB xs = true) (hs : xs.all ps.contains = true) : xs.length ≤ ps.length :=
  sub_len (lt_nodup (asc_pw.mp h)) (fun x hx => by simpa using List.all_eq_true.mp hs x hx)
theorem asc_zip : ∀ xs : List Int, (List.zipWith (fun a b => decide (a < b)) xs (xs.drop 1)).all id = ascB xs
  | [] => rfl
  | [x] => rfl
  | x :: y :: l => by
    have := asc_zip (y :: l)
    rw [ascB, ← this]
    simp
theorem asc_sorted {xs s : List Int} (hs : s.Pairwise (· < ·)) (hm : ∀ x, x ∈ s ↔ x ∈ xs) : decide (xs = s) = ascB xs := by
  by_cases h : ascB xs = true
  · rw [h]; exact decide_eq_true (lt_unique (asc_pw.mp h) hs (fun k => (hm k).symm))
  · have h' : ascB xs = false := by simpa using h
    rw [h']
    exact decide_eq_false (fun e => h (asc_pw.mpr (e ▸ hs)))
theorem unc_mem {cs : List Int} {gs : List Gp} {p : Int} : p ∈ rUnc cs gs ↔ (0 ≤ p ∧ p < (cs.length : Int)) ∧ 0 < spOf cs gs p := by
  unfold rUnc
  rw [List.mem_filter, List.mem_map, decide_eq_true_eq]
  constructor
  · rintro ⟨⟨k, hk, rfl⟩, h⟩
    rw [List.mem_range] at hk
    exact ⟨⟨by omega, by omega⟩, h⟩
  · rintro ⟨⟨h0, h1⟩, h⟩
    exact ⟨⟨p.toNat, List.mem_range.mpr (by omega), by omega⟩, h⟩
theorem posts_asc (n : Nat) : ((List.range n).map (fun (k : Nat) => (k : Int))).Pairwise (· < ·) := by
  rw [List.pairwise_map]
  exact List.Pairwise.imp (fun h => by omega) (List.pairwise_lt_range (n := n))
theorem unc_asc (cs : List Int) (gs : List Gp) : (rUnc cs gs).Pairwise (· < ·) := (posts_asc _).filter _
theorem cro_asc (cs : List Int) (gs : List Gp) : (rCro cs gs).Pairwise (· < ·) := by rw [cro_list]; exact (posts_asc _).filter _
theorem posts_len (n : Nat) (f : Int → Bool) : (((List.range n).map (fun (k : Nat) => (k : Int))).filter f).length ≤ n := by
  have := List.length_filter_le f ((List.range n).map (fun (k : Nat) => (k : Int)))
  rw [List.length_map, List.length_range] at this
  exact this
theorem unc_len (cs : List Int) (gs : List Gp) : (rUnc cs gs).length ≤ cs.length := posts_len ..
theorem cro_len (cs : List Int) (gs : List Gp) : (rCro cs gs).length ≤ cs.length := by rw [cro_list]; exact posts_len ..
/-- whom a choice lets go: the groups whose first post is chosen and whose reserve isn't -/
def outV (C R : List Int) (cs : List Int) (gs : List Gp) (g : Gp) : Bool := inV (optV g.1 0) (C.map V.int) && !inV (optV g.1 (resC cs gs g)) (R.map V.int)
def escOf (C R : List Int) (cs : List Int) (gs hs : List Gp) : Int := (hs.map fun g => if outV C R cs gs g = true then g.2 else 0).sum
def sfOf (C R : List Int) (cs : List Int) (gs : List Gp) : Int :=
  (C.map fun p => - spOf cs gs p).sum - escOf C R cs gs gs - (R.map (spOf cs gs)).sum
theorem esc_snoc (C R : List Int) (cs : List Int) (gs : List Gp) {k : Nat} {g : Gp} (h : gs[k]? = some g) : escOf C R cs gs (gs.take (k + 1)) = escOf C R cs gs (gs.take k) + if outV C R cs gs g = true then g.2 else 0 := by
  unfold escOf
  rw [take_snoc h, List.map_append, List.sum_append]
  simp
theorem non_in (cl : List Int) : inV .non (cl.map V.int) = false := by
  unfold inV
  rw [List.any_eq_false]
  intro v hv
  obtain ⟨i, _, rfl⟩ := List.mem_map.mp hv
  simp [eqV]
theorem flat_opt (ps : List Int) (k : Nat) : flatV (optV ps k) = true := by unfold optV; split <;> rfl
theorem res_min {ps cl : List Int} {m : Int} (hm : m ∈ ((List.range' 1 (ps.length - 1)).filter (isFree ps cl)).map (fun (k : Nat) => (k : Int)) ++ [(ps.length : Int)])
    (hl : ∀ y ∈ ((List.range' 1 (ps.length - 1)).filter (isFree ps cl)).map (fun (k : Nat) => (k : Int)) ++ [(ps.length : Int)], m ≤ y) : m = (resOf ps cl : Int) := by
  have hR : ((resOf ps cl : Nat) : Int) ∈ ((List.range' 1 (ps.length - 1)).filter (isFree ps cl)).map (fun (k : Nat) => (k : Int)) ++ [(ps.length : Int)] := by
    unfold resOf
    cases e : (List.range' 1 (ps.length - 1)).find? (isFree ps cl) with
    | none => simp
    | some x =>
      refine List.mem_append_left _ (List.mem_map.mpr ⟨x, List.mem_filter.mpr ⟨List.mem_of_find?_eq_some e, List.find?_some e⟩, rfl⟩)
  have h1 := hl _ hR
  refine Int.le_antisymm h1 ?_
  rcases List.mem_append.mp hm with h | h
  · obtain ⟨k, hk, rfl⟩ := List.mem_map.mp h
    obtain ⟨k1, k2⟩ := List.mem_filter.mp hk
    unfold resOf
    cases e : (List.range' 1 (ps.length - 1)).find? (isFree ps cl) with
    | none => exact absurd k2 (by have := List.find?_eq_none.mp e k k1; exact this)
    | some x =>
      obtain ⟨p1, as, bs, e1, e2⟩ := List.find?_eq_some_iff_append.mp e
      have hkm : k ∈ as ++ x :: bs := e1 ▸ k1
      rcases List.mem_append.mp hkm with h | h
      · have := e2 k h; rw [k2] at this; simp at this
      · rcases List.mem_cons.mp h with rfl | h
        · exact Int.le_refl _
        · have pw : (as ++ x :: bs).Pairwise (· < ·) := by rw [← e1]; exact List.pairwise_lt_range' ..
          have := (List.pairwise_cons.mp (List.pairwise_append.mp pw).2.1).1 k h
          show (x : Int) ≤ k
          omega
  · simp only [List.mem_singleton] at h
    rw [h]
    have := resOf_le ps cl
    omega
theorem cutFrom (xs : List V) (n : Nat) : cutV xs (some (n : Int)) none = xs.drop n := by
  unfold cutV
  rw [HT.sIx_nat, HT.sIx_none]
  by_cases h : n ≤ xs.length
  · rw [Nat.min_eq_left h, List.take_of_length_le (by rw [List.length_drop]; exact Nat.le_refl _)]
  · rw [Nat.min_eq_right (by omega), List.drop_eq_nil_of_le (Nat.le_refl _), List.drop_eq_nil_of_le (by omega)]; simp
theorem slAny {K : PySem.W.Frag} {H : Hp} {a : Addr} {xs : List V} {lo hi : Option Int} (hP : SqT K H a xs) {Q : VK} (h : ∀ (H' : Hp) (b : Addr), Same H H' → SqT K H' b (cutV xs lo hi) → Q (.ref b) H') : rSlA K (.ref a) lo hi H Q := by
  refine ⟨a, _, rfl, hP, fun hw => ?_, fun _ p np => ?_⟩
  · refine h H a (Same.refl _) ?_
    have e : cutV xs lo hi = xs := by
      unfold cutV
      rw [hw.1, hw.2, List.drop_zero, Nat.sub_zero, List.take_length]
    rw [e]; exact hP
  · exact h _ p (sameNew np) (SqT.of upd_same)
theorem fm_posts (l : List Nat) (f : Int → Bool) : l.filterMap (fun (k : Nat) => if f (k : Int) = true then some (V.int (k : Int)) else none) = ((l.map (fun (k : Nat) => (k : Int))).filter f).map V.int := by
  induction l with
  | nil => rfl
  | cons a l ih =>
    rw [List.filterMap_cons, List.map_cons, List.filter_cons]
    cases h : f (a : Int)
    · simp only [Bool.false_eq_true, if_false]; exact ih
    · simp only [if_true, List.map_cons]; rw [ih]
def chB (ps : List Int) (d : PyData) : Bool := match d with | .int i => ps.contains i | _ => false
theorem chB_ints : ∀ {ds : List PyData} {ps : List Int}, (ds.map (chB ps)).all id = true ↔ ∃ xs, intsAll ds = some xs ∧ xs.all ps.contains = true
  | [], ps => by simp [intsAll]
  | d :: ds, ps => by
    rw [List.map_cons, List.all_cons, Bool.and_eq_true, chB_ints (ds := ds)]
    cases d with
    | int i =>
      simp only [id, chB, intsAll, Option.map_eq_some_iff]
      constructor
      · rintro ⟨h, xs, e, hx⟩
        exact ⟨i :: xs, ⟨xs, e, rfl⟩, by rw [List.all_cons, h, hx]; rfl⟩
      · rintro ⟨_, ⟨xs, e, rfl⟩, hx⟩
        rw [List.all_cons, Bool.and_eq_true] at hx
        exact ⟨hx.1, xs, e, hx.2⟩
    | _ => simp [chB, intsAll]
theorem rtB_not {ps : List Int} {d : PyData} (h : tupOfD 0 ps.length d = false) : rtB ps d = false := by
  unfold rtB
  cases d with
  | tuple ds =>
    simp only [intsOf]
    cases e : intsAll ds with
    | none => rfl
    | some xs =>
      have el := congrArg List.length (intsAll_eq e)
      rw [List.length_map] at el
      simp only [tupOfD] at h
      have h := of_decide_eq_false h
      simp only
      rw [Bool.and_eq_false_iff]
      by_cases h1 : xs.all ps.contains = true
      · refine .inr (Bool.eq_false_iff.mpr fun h2 => h ⟨by omega, ?_⟩)
        have := asc_len h2 h1
        omega
      · exact .inl (Bool.eq_false_iff.mpr h1)
  | _ => rfl
end Pv

namespace Pv
open PySem PySem.Spec PyProof.Rows L2
abbrev sOd : Stmt := topS 46
theorem scOd : FnScope ["_law_deck_here", "_law_some"] ["_law_deck_here"] (defScope sOd) := ⟨rfl, rfl, rfl, by decide +kernel, rfl, by decide +kernel, by decide +kernel⟩
abbrev sCh : Stmt := topS 47
theorem scCh : FnScope ["_law_deck_here", "_law_value_here", "_law_depth", "_law_seat", "_law_part", "_law_some"] ["_law_deck_here", "_law_value_here", "_law_depth"] (defScope sCh) := ⟨rfl, rfl, rfl, by decide +kernel, rfl, by decide +kernel, by decide +kernel⟩
section
variable {X : Cx} {e : Expr} {pos : Pos}
theorem lit_sub {e1 e2 : Expr} {a b : Int} (h1 : PE X e1 (tLit X.K (.int a))) (h2 : PE X e2 (tLit X.K (.int b))) : PE X (.BinOp e1 .Sub e2 pos) (tLit X.K (.int (a - b))) :=
  pe_mono (pe_op op_sub h1 h2) fun σ H Q ⟨st, r, oc, q⟩ => ⟨st, r, oc, fun Ha va sa da => ⟨st, r, occ oc sa, fun Hb vb sb db => by
    cases da
    cases db
    exact ⟨a, b, rfl, rfl, q Hb _ (sa.trans sb) (.int _)⟩⟩⟩
end
def oddsA : List PyData := [.none, .bool true, .bool false, .int 0, .int 1, .int (-1), .int ((10 : Int) ^ (12 : Int).toNat + 1), .int (0 - (10 : Int) ^ (12 : Int).toNat - 1), .str "", .str "0", .tuple [], .list [], .dict []]
def oddsB : List PyData := [.tuple [.int 0], .list [.int 0], .tuple [.int 0, .int 0], .tuple [.tuple [], .tuple []]]
def ShpN : Nat → PyData → Prop
  | 0, _ => False
  | 1, d => ∃ i, d = .int i
  | n + 2, d => ∃ ds, d = .tuple ds ∧ 1 ≤ ds.length ∧ ds.length ≤ 10 ∧ ∀ e ∈ ds, ShpN (n + 1) e
theorem dq_tup {K : PySem.W.Frag} {st r : Addr} {H : Hp} {v : V} {ds : List PyData} (h : Dq K st r H v (.tuple ds)) : ∃ (a : Addr) (xs : List V), v = .ref a ∧ SqT K H a xs ∧ DqAll K st r H xs ds := by
  cases h with
  | tup h1 h2 => exact ⟨_, _, rfl, h1, h2⟩
theorem dq_cut {K : PySem.W.Frag} {st r : Addr} {H : Hp} {xs : List V} {ds : List PyData} (h : DqAll K st r H xs ds) (lo hi : Option Int) : ∃ es, DqAll K st r H (cutV xs lo hi) es ∧ es.length ≤ ds.length := by
  unfold cutV
  exact ⟨_, (h.drop _).take _, by rw [List.length_take, List.length_drop]; omega⟩
theorem dq_mem {K : PySem.W.Frag} {st r : Addr} {H : Hp} {xs : List V} {ds : List PyData} (h : DqAll K st r H xs ds) {x : V} (hx : x ∈ xs) : ∃ d, Dq K st r H x d := by
  obtain ⟨j, hj, e⟩ := List.mem_iff_getElem.mp hx
  obtain ⟨d, _, hd⟩ := DqAll.at h (List.getElem?_eq_getElem hj)
  exact ⟨d, by rw [← e]; exact hd⟩
section
variable {P : Program} {w : World} {K : PySem.W.Frag} {mg : Str → Option Value} {base : Heap}
def spOd (K : PySem.W.Frag) : Sp := fun vs H Q _ => ∃ (st c r : Addr) (t : Nat), vs = [.ref st] ∧ DU H st c r t ∧ t < 900000 ∧
  ∀ (H' : Hp) (v : V) (d : PyData), DU H' st c r (t + 1) → Ext st r H H' → Dq K st r H' v d → Q v H'
set_option maxHeartbeats 8000000 in
theorem ok_Od {f fPk : Addr} {fd fdPk : FuncData} (F : Fun K "_law_odd" "_law_odd" sOd f fd)
    (FPk : Fun K "_law_pick" "_law_pick" sPk fPk fdPk) (bPk : Binds K fdPk ["_law_deck_here", "_law_items"] []) (gPk : mg "_law_pick" = some (.ref fPk)) (GPk : FnOk P w K mg base CX0 2 fPk fdPk ["_law_deck_here", "_law_items"] (spPk K))
     :
    FnOk P w K mg base CX0 3 f fd ["_law_deck_here"] (spOd K) := by
  refine F.ok scOd (fun vs H Q E h => ?_) (fun cdv A outer s H vs Q E hr h => ?_)
  · obtain ⟨st, c, r, t, rfl, _⟩ := h; rfl
  · obtain ⟨st, c, r, t, rfl, D0, ht, q⟩ := h
    refine ⟨_, pss_cons (ps_set (i := 1) scOd.nd rfl (.inl rfl) (pe_lst (t := tLits K oddsA) (lits_cons (lit_non pe_non) (lits_cons (lit_bl pe_bl) (lits_cons (lit_bl pe_bl) (lits_cons (lit_int pe_int) (lits_cons (lit_int pe_int) (lits_cons (lit_neg (pe_un un_neg pe_int)) (lits_cons (lit_add (lit_pow (pe_op op_pow pe_int pe_int) ⟨by decide, by decide, by decide⟩) (lit_int pe_int)) (lits_cons (lit_sub (lit_sub (lit_int pe_int) (lit_pow (pe_op op_pow pe_int pe_int) ⟨by decide, by decide, by decide⟩)) (lit_int pe_int)) (lits_cons (lit_str pe_str) (lits_cons (lit_str pe_str) (lits_cons (lit_tup lits_nil (by decide)) (lits_cons (lit_lst lits_nil (by decide)) (lits_cons lit_dict lits_nil)))))))))))))))
      (pss_one (ps_ret (pe_call GPk (hr.mono (by omega)) (by rfl) gPk FPk.kp bPk .nil pass0 (pa_cons (pv 0) (pa_cons (pe_op op_cat (pv 1) (pe_lst (t := tLits K oddsB) (lits_cons (lit_tup (lits_cons (lit_int pe_int) lits_nil) (by decide)) (lits_cons (lit_lst (lits_cons (lit_int pe_int) lits_nil) (by decide)) (lits_cons (lit_tup (lits_cons (lit_int pe_int) (lits_cons (lit_int pe_int) lits_nil)) (by decide)) (lits_cons (lit_tup (lits_cons (lit_tup lits_nil (by decide)) (lits_cons (lit_tup lits_nil (by decide)) lits_nil)) (by decide)) lits_nil)))))) pa_nil))))), ?_⟩
    refine ⟨st, r, D0.occ, fun H1 vs s1 hv => ⟨by rw [DqAll.len hv]; exact small6 (by decide), fun Lo nLo => ?_⟩⟩
    have D1 := (D0.same s1).new (o := .lst vs) nLo
    have sH := s1.trans (sameNew (o := .lst vs) nLo)
    have eLo : (upd H1 Lo (.lst vs)) Lo = some (.lst vs) := upd_same
    have hv1 : DqAll K st r (upd H1 Lo (.lst vs)) vs oddsA := hv.lasts (.of (sameNew nLo))
    generalize upd H1 Lo (.lst vs) = H2 at D1 sH eLo hv1 ⊢
    refine ⟨.ref st, rfl, .ref Lo, rfl, cat_lits (es := oddsB) eLo hv1 D1.occ (by decide) (fun H3 L' vs' s3 eL' n1 n2 hD => ?_)⟩
    have lv := DqAll.len hD
    have l17 : (oddsA ++ oddsB).length = 17 := rfl
    refine ⟨st, c, r, L', t, vs', rfl, D1.same s3, ht, eL', by omega, by omega, n1, n2, fun H4 x hx D4 X4 => ?_⟩
    obtain ⟨d, hd⟩ := dq_mem (hD.lasts ((D1.same s3).lasts X4)) hx
    exact q H4 x d D4 ((Ext.of (sH.trans s3)).trans X4) hd
def spCh (K : PySem.W.Frag) : Nat → Sp
  | 0 => fun _ _ _ _ => False
  | n + 1 => fun vs H Q _ => ∃ (st c r : Addr) (t : Nat) (v : V) (d : PyData), vs = [.ref st, v, .int (n : Nat)] ∧ DU H st c r t ∧ t + 6 * (n + 1) < 900000 ∧ Dq K st r H v d ∧ ShpN n d ∧
    ∀ (H' : Hp) (v' : V) (d' : PyData) (t' : Nat), DU H' st c r t' → t' ≤ t + 6 * (n + 1) → Ext st r H H' → Dq K st r H' v' d' → Q v' H'
theorem recN {K : PySem.W.Frag} {n : Nat} {a b : V} {x y : Int} {H : Hp} {Q : VK} {E : XK} (h : x = y) (k : spCh K n [a, b, .int y] H Q E) : spCh K n [a, b, .int x] H Q E := by rw [h]; exact k
set_option maxHeartbeats 16000000 in
theorem ok_Ch {f fDr fOd fPk : Addr} {fd fdDr fdOd fdPk : FuncData} (F : Fun K "_law_changed" "_law_changed" sCh f fd) (b : Binds K fd ["_law_deck_here", "_law_value_here", "_law_depth"] []) (g : mg "_law_changed" = some (.ref f))
    (FDr : Fun K "_law_draw" "_law_draw" sDr fDr fdDr) (bDr : Binds K fdDr ["_law_deck_here", "_law_many"] []) (gDr : mg "_law_draw" = some (.ref fDr)) (GDr : FnOk P w K mg base CX0 1 fDr fdDr ["_law_deck_here", "_law_many"] spDraw)
    (FOd : Fun K "_law_odd" "_law_odd" sOd fOd fdOd) (bOd : Binds K fdOd ["_law_deck_here"] []) (gOd : mg "_law_odd" = some (.ref fOd)) (GOd : FnOk P w K mg base CX0 3 fOd fdOd ["_law_deck_here"] (spOd K))
    (FPk : Fun K "_law_pick" "_law_pick" sPk fPk fdPk) (bPk : Binds K fdPk ["_law_deck_here", "_law_items"] []) (gPk : mg "_law_pick" = some (.ref fPk)) (GPk : FnOk P w K mg base CX0 2 fPk fdPk ["_law_deck_here", "_law_items"] (spPk K))
    (m_tuple : mg "tuple" = none) (m_isinstance : mg "isinstance" = none) (m_len : mg "len" = none) (m_list : mg "list" = none) (m_int : mg "int" = none) :
    ∀ n, FnOk P w K mg base CX0 (n + 4) f fd ["_law_deck_here", "_law_value_here", "_law_depth"] (spCh K n)
  | 0 => ⟨fun _ _ _ _ h => h.elim, fun _ _ _ _ _ _ _ _ _ _ _ _ _ h => h.elim⟩
  | n + 1 => by
    have G := ok_Ch F b g FDr bDr gDr GDr FOd bOd gOd GOd FPk bPk gPk GPk m_tuple m_isinstance m_len m_list m_int n
    refine F.ok scCh (fun vs H Q E h => ?_) (fun cdv A outer s H vs Q E hr h => ?_)
    · obtain ⟨st, c, r, t, v, d, rfl, _⟩ := h; rfl
    obtain ⟨st, c, r, t, v, d, rfl, D0, ht, hd, hs, q⟩ := h
    have hu0 : (A.deeper (envOfC "_law_changed" (defScope sCh) s.heap.objs.size f cdv)).units < cLine := by have := hr.un; omega
    refine ⟨_, pss_cons (ps_if (PW.pt (pw_and (pt_cmpR op_gt (pv 2) (pe_int) (nomark _)) (pw_and (pt_val (pe_callB call_isi (by rfl) m_isinstance (by decide +kernel) (pa_cons (pv 1) (pa_cons (pe_bltn (v := .ty "tuple") (by rfl) m_tuple (by decide +kernel) rfl) pa_nil)))) (pw_and (pt_cmpR (op_neNilT hu0) (pv 1) (pe_tup (pa_nil)) (nomark _)) (pw_and1 (pt_cmpR op_gt (pe_call GDr (hr.mono (by omega)) (by rfl) gDr FDr.kp bDr .nil pass0 (pa_cons (pv 0) (pa_cons (pe_int) pa_nil))) (pe_int) (nomark _)))))))
        (pss_cons (ps_set (i := 3) scCh.nd rfl (.inl rfl) (pe_call GDr (hr.mono (by omega)) (by rfl) gDr FDr.kp bDr .nil pass0 (pa_cons (pv 0) (pa_cons (pe_callB call_lenQ (by rfl) m_len PySem.boot_len (pa_cons (pv 1) pa_nil)) pa_nil))))
        (pss_cons (ps_set (i := 4) scCh.nd rfl (.inl rfl) (pe_call G hr (by rfl) g F.kp b .nil pass0 (pa_cons (pv 0) (pa_cons (pe_ix ix_tup (pv 1) (pv 3) (fun _ _ => rfl)) (pa_cons (pe_op op_sub (pv 2) (pe_int)) pa_nil)))))
        (pss_one (ps_ret (pe_op op_catA (pe_op op_catA (pe_slice sl_tupA (pv 1) po_none (po_some (pv 3))) (pe_tup (pa_cons (pv 4) pa_nil))) (pe_slice sl_tupA (pv 1) (po_some (pe_op op_add (pv 3) (pe_int))) po_none)))))) pss_nil)
      (pss_cons (ps_set (i := 5) scCh.nd rfl (.inl rfl) (pe_lst (pa_cons (pe_call GOd (hr.mono (by omega)) (by rfl) gOd FOd.kp bOd .nil pass0 (pa_cons (pv 0) pa_nil)) (pa_cons (pe_call GOd (hr.mono (by omega)) (by rfl) gOd FOd.kp bOd .nil pass0 (pa_cons (pv 0) pa_nil)) pa_nil))))
      (pss_cons (ps_if (pt_val (pe_callB call_isi (by rfl) m_isinstance (by decide +kernel) (pa_cons (pv 1) (pa_cons (pe_bltn (v := .ty "tuple") (by rfl) m_tuple (by decide +kernel) rfl) pa_nil))))
        (pss_one (ps_set (i := 5) scCh.nd rfl (.inl rfl) (pe_op op_cat (pv 5) (pe_lst (pa_cons (pe_callTy call_listS (by rfl) m_list (by decide +kernel) (pa_cons (pv 1) pa_nil)) (pa_cons (pe_slice sl_tupA (pv 1) (po_some (pe_int)) po_none) (pa_cons (pe_op op_catA (pv 1) (pe_slice sl_tupA (pv 1) (po_some (pe_un un_neg (pe_int))) po_none)) (pa_cons (pe_revT (pv 1)) (pa_cons (pe_tup (pa_cons (pv 1) pa_nil)) pa_nil))))))))) (pss_one (ps_if (pt_val (pe_callB call_isi (by rfl) m_isinstance (by decide +kernel) (pa_cons (pv 1) (pa_cons (pe_bltn (v := .ty "int") (by rfl) m_int (by decide +kernel) rfl) pa_nil))))
          (pss_one (ps_set (i := 5) scCh.nd rfl (.inl rfl) (pe_op op_cat (pv 5) (pe_lst (pa_cons (pe_op op_add (pv 1) (pe_int)) (pa_cons (pe_op op_sub (pv 1) (pe_int)) (pa_cons (pe_op op_sub (pe_int) (pv 1)) (pa_cons (pe_op op_pow (pe_int) (pe_int)) (pa_cons (pe_op op_sub (pe_int) (pe_op op_pow (pe_int) (pe_int))) (pa_cons (pe_int) pa_nil)))))))))) pss_nil)))
      (pss_one (ps_ret (pe_call GPk (hr.mono (by omega)) (by rfl) gPk FPk.kp bPk .nil pass0 (pa_cons (pv 0) (pa_cons (pv 5) pa_nil))))))), ?_⟩
    have hn1 : 1 ≤ n := by
      cases n with
      | zero => exact hs.elim
      | succ n => omega
    refine (id ?_ : tSeq (tIfS _ _ _) _ _ _ _)
    refine seq_with (fun σ1 H3 => σ1 = [some (.ref st), some v, some (.int (n : Nat)), none, none, none] ∧ ∃ t1, DU H3 st c r t1 ∧ t1 ≤ t + 1 ∧ Ext st r H H3) ?restA (fun restA => ?mainA)
    case mainA =>
      refine ⟨.int (n : Nat), rfl, _, _, rfl, rfl, _, rfl, iteTT (decide_eq_true (by omega)) ?_⟩
      refine ⟨v, rfl, v, .ty "tuple", _, _, _, rfl, .ty _, hd.ty, kit_tup d, _, rfl, ite2 (fun h1 => ?_) (fun h1 => restA _ _ ⟨rfl, t, D0, by omega, Ext.of (Same.refl _)⟩)⟩
      obtain ⟨ds, rfl⟩ : ∃ ds, d = .tuple ds := by
        cases d with
        | tuple ds => exact ⟨ds, rfl⟩
        | _ => simp [isTup] at h1
      obtain ⟨n', rfl⟩ : ∃ n', n = n' + 1 := ⟨n - 1, by omega⟩
      obtain ⟨hl1, hl2, hsub⟩ : 1 ≤ ds.length ∧ ds.length ≤ 10 ∧ ∀ e ∈ ds, ShpN n' e := by
        cases n' with
        | zero => obtain ⟨i, e⟩ := hs; cases e
        | succ m => obtain ⟨ds', e, a, b, c⟩ := hs; cases e; exact ⟨a, b, c⟩
      obtain ⟨a, xs, rfl, hT, ha⟩ := dq_tup hd
      have hl := DqAll.len ha
      refine ⟨.ref a, rfl, Nat.zero_le _, fun e ne => ⟨a, e, xs, rfl, rfl, sqS (sameNew ne) hT, SqT.of upd_same, _, rfl, ?_⟩⟩
      refine iteTT (by cases xs with | nil => simp at hl; omega | cons _ _ => rfl) ?_
      have se : Same H (upd H e (.tup [])) := sameNew ne
      refine ⟨.ref st, rfl, st, c, r, t, 6, rfl, D0.same se, by omega, by decide, by decide, fun H3 g6 g60 g61 D3 X3 => ⟨_, _, rfl, rfl, _, rfl, ite2 (fun h3 => ?_) (fun h3 => restA _ _ ⟨rfl, t + 1, D3, Nat.le_refl _, (Ext.of se).trans X3⟩)⟩⟩
      have X03 := (Ext.of se).trans X3
      have L3 := D0.lasts X03
      refine ⟨.ref st, rfl, .ref a, rfl, a, xs, rfl, .inr (L3.tk.sq hT), st, c, r, t + 1, _, rfl, D3, by omega, by omega, by omega, fun H4 sp s0 s1 D4 X4 => ?_⟩
      obtain ⟨sn, rfl⟩ : ∃ m : Nat, sp = m := ⟨sp.toNat, by omega⟩
      have hsn : sn < xs.length := by omega
      have X04 := X03.trans X4
      have L4 := D0.lasts X04
      have hT4 := L4.tk.sq hT
      have hx : xs[sn]? = some xs[sn] := List.getElem?_eq_getElem hsn
      obtain ⟨de, hde, hxe⟩ := DqAll.at ha hx
      refine ⟨.ref st, rfl, .ref a, rfl, .int sn, rfl, a, xs, _, _, rfl, rfl, hT4, atI_nat hx, .int ((n' + 1 : Nat) : Int), rfl, _, _, rfl, rfl, ?_⟩
      dsimp only [tNil]
      refine recN (y := ((n' : Nat) : Int)) ?eqn ?_
      case eqn => show (((n' + 1 : Nat) : Int) - 1) = ((n' : Nat) : Int); omega
      refine ⟨st, c, r, t + 1 + 1, _, de, rfl, D4, by omega, hxe.lasts L4, hsub de (List.mem_of_getElem? hde), fun H5 v4 d4 t4 D5 ht5 X5 hv4 => ?_⟩
      have X05 := X04.trans X5
      have L5 := D0.lasts X05
      refine ⟨.ref a, rfl, .int sn, rfl, sn, rfl, slAny (K := K) (a := a) (xs := xs) (lo := none) (hi := some (sn : Int)) (L5.tk.sq hT) (fun H6 b6 s6 hb6 => ?_)⟩
      rw [cut_to] at hb6
      refine ⟨v4, rfl, (show (1 : Nat) ≤ sizeLine by decide), fun R nR => ?_⟩
      have sR := sameNew (o := .tup [v4]) nR
      refine cat_eq (xs := xs.take sn) (ys := [v4]) (sqS sR hb6) (SqT.of upd_same) (by rw [List.length_take]; simp only [List.length_cons, List.length_nil]; exact small6 (by omega)) (fun H7 b7 s7 hb7 => ?_)
      have s57 := (s6.trans sR).trans s7
      refine ⟨.ref a, rfl, .int sn, rfl, _, _, rfl, rfl, ((sn + 1 : Nat) : Int), by simp, ?_⟩
      dsimp only [tNoPart]
      refine slAny (K := K) (a := a) (xs := xs) (lo := some ((sn + 1 : Nat) : Int)) (hi := none) (H := H7) (sqS s57 (L5.tk.sq hT)) (fun H8 b8 s8 hb8 => ?_)
      rw [cutFrom] at hb8
      refine cat_eq (sqS s8 hb7) hb8 (by rw [List.length_append, List.length_take, List.length_drop]; simp only [List.length_cons, List.length_nil]; exact small6 (by omega)) (fun H9 b9 s9 hb9 => ?_)
      have s59 := s57.trans (s8.trans s9)
      have L9 : Lasts st r H H9 := L5.trans (.of s59)
      exact q H9 _ (.tuple (ds.take sn ++ [d4] ++ ds.drop (sn + 1))) t4 (D5.same s59) (by omega) (X05.trans (.of s59)) (.tup hb9 (DqAll.app (DqAll.app (DqAll.take _ (ha.lasts L9)) (.cons (hv4.lasts (.of s59)) .nil)) (DqAll.drop _ (ha.lasts L9))))
    case restA =>
      rintro _ H3 ⟨rfl, t1, D3, ht1, X3⟩
      refine ⟨.ref st, rfl, st, c, r, t1, rfl, D3, by omega, fun Ha v1 d1 Da Xa q1 => ⟨.ref st, rfl, st, c, r, t1 + 1, rfl, Da, by omega, fun Hb v2 d2 Db Xb q2 => ⟨(show (2 : Nat) ≤ sizeLine by decide), fun Lo nLo => ?_⟩⟩⟩
      obtain ⟨oL1, _, oL2⟩ := Db.off nLo
      have sLo := sameNew (o := .lst [v1, v2]) nLo
      have D4 : DU (upd Hb Lo (.lst [v1, v2])) st c r (t1 + 2) := Db.same sLo
      have X4 : Ext st r H3 (upd Hb Lo (.lst [v1, v2])) := (Xa.trans Xb).trans (Ext.of sLo)
      have eLo : (upd Hb Lo (.lst [v1, v2])) Lo = some (.lst [v1, v2]) := upd_same
      have hodd : DqAll K st r (upd Hb Lo (.lst [v1, v2])) [v1, v2] [d1, d2] := .cons ((q1.lasts (Da.lasts Xb)).lasts (.of sLo)) (.cons (q2.lasts (.of sLo)) .nil)
      generalize upd Hb Lo (.lst [v1, v2]) = H4 at D4 X4 eLo hodd ⊢
      have X04 := X3.trans X4
      have L4 := D0.lasts X04
      have hd4 := hd.lasts L4
      dsimp only [gName]
      refine (id ?_ : tSeq (tIfS _ _ _) _ _ _ _)
      refine seq_with (fun σ1 H5 => ∃ (L : Addr) (vs : List V) (ds : List PyData), σ1 = [some (.ref st), some v, some (.int (n : Nat)), none, none, some (.ref L)] ∧ DU H5 st c r (t1 + 2) ∧ Ext st r H4 H5 ∧ H5 L = some (.lst vs) ∧ DqAll K st r H5 vs ds ∧ 0 < vs.length ∧ vs.length ≤ 20 ∧ L ≠ st ∧ L ≠ r) ?restB (fun restB => ?mainB)
      case restB =>
        rintro _ H5 ⟨L, vs, ds, rfl, D5, X5, eL, hD, l0, l20, n1, n2⟩
        refine ⟨.ref st, rfl, .ref L, rfl, st, c, r, L, t1 + 2, vs, rfl, D5, by omega, eL, l0, by omega, n1, n2, fun H6 x hx D6 X6 => ?_⟩
        obtain ⟨dx, hdx⟩ := dq_mem (hD.lasts (D5.lasts X6)) hx
        exact q H6 x dx _ D6 (by omega) ((X04.trans X5).trans X6) hdx
      case mainB =>
        refine ⟨v, rfl, v, .ty "tuple", _, _, _, rfl, .ty _, hd4.ty, kit_tup d, _, rfl, ite2 (fun h1 => ?_) (fun h1 => ?_)⟩
        · obtain ⟨ds, rfl⟩ : ∃ ds, d = .tuple ds := by
            cases d with
            | tuple ds => exact ⟨ds, rfl⟩
            | _ => simp [isTup] at h1
          have hl2 : ds.length ≤ 10 := by
            match n, hs with
            | 0, hs => exact hs.elim
            | 1, hs => obtain ⟨i, e⟩ := hs; cases e
            | m + 2, hs => obtain ⟨ds', e, a, b, c⟩ := hs; cases e; exact b
          obtain ⟨a, xs, rfl, hT, ha⟩ := dq_tup hd4
          have hl := DqAll.len ha
          refine ⟨.ref Lo, rfl, .ref a, rfl, a, xs, rfl, hT, fun Lz nL mL => ?_⟩
          have oL := D4.off nL
          have sL := sameNew (o := .lst xs) nL
          have eLz : (upd H4 Lz (.lst xs)) Lz = some (.lst xs) := upd_same
          have D5 := D4.same sL
          generalize upd H4 Lz (.lst xs) = H5 at sL eLz D5 ⊢
          have hz : Dq K st r H5 (.ref Lz) (.list ds) := .lst eLz oL.1 oL.2.2 mL (ha.lasts (.of sL))
          refine ⟨.ref a, rfl, 1, rfl, ?_⟩
          dsimp only [tNoPart]
          refine slAny (K := K) (a := a) (xs := xs) (lo := some 1) (hi := none) (sqS sL hT) (fun H6 b6 s6 hb6 => ?_)
          obtain ⟨es6, hes6, le6⟩ := dq_cut (ha.lasts (.of (sL.trans s6))) (some 1) none
          have h6 : Dq K st r H6 (.ref b6) (.tuple es6) := .tup hb6 hes6
          have s46 := sL.trans s6
          refine ⟨.ref a, rfl, .ref a, rfl, 1, rfl, -1, rfl, ?_⟩
          dsimp only [tNoPart]
          refine slAny (K := K) (a := a) (xs := xs) (lo := some (-1)) (hi := none) (sqS s46 hT) (fun H7 b7 s7 hb7 => ?_)
          obtain ⟨es7, hes7, le7⟩ := dq_cut (ha.lasts (.of (s46.trans s7))) (some (-1)) none
          have s47 := s46.trans s7
          have lc7 := cutV_length xs (some (-1)) none
          refine cat_eq (sqS s47 hT) hb7 (small6 (by omega)) (fun H8 b8 s8 hb8 => ?_)
          have s48 := s47.trans s8
          have h8 : Dq K st r H8 (.ref b8) (.tuple (ds ++ es7)) := .tup hb8 ((ha.lasts (.of s48)).app (hes7.lasts (.of s8)))
          refine ⟨.ref a, rfl, a, xs, rfl, sqS s48 hT, fun p9 n9 => ?_⟩
          have s9 := sameNew (o := .tup xs.reverse) n9
          have h9 : Dq K st r (upd H8 p9 (.tup xs.reverse)) (.ref p9) (.tuple ds.reverse) := .tup (SqT.of upd_same) (ha.lasts (.of (s48.trans s9))).rev
          generalize upd H8 p9 (.tup xs.reverse) = H9 at s9 h9 ⊢
          have s49 := s48.trans s9
          refine ⟨.ref a, rfl, (show (1 : Nat) ≤ sizeLine by decide), fun p10 n10 => ?_⟩
          have s10 := sameNew (o := .tup [.ref a]) n10
          have h10 : Dq K st r (upd H9 p10 (.tup [.ref a])) (.ref p10) (.tuple [.tuple ds]) := .tup (SqT.of upd_same) (.cons (.tup (sqS (s49.trans s10) hT) (ha.lasts (.of (s49.trans s10)))) .nil)
          generalize upd H9 p10 (.tup [.ref a]) = H10 at s10 h10 ⊢
          have sA : Same H9 H10 := s10
          refine ⟨(show (5 : Nat) ≤ sizeLine by decide), fun M nM => ?_⟩
          have sM := sameNew (o := .lst [.ref Lz, .ref b6, .ref b8, .ref p9, .ref p10]) nM
          have s4M := (s49.trans s10).trans sM
          refine ⟨Lo, M, _, _, rfl, rfl, s4M _ _ eLo, upd_same, by simp only [List.length_cons, List.length_nil]; decide, fun N nN => ?_⟩
          have sN := sameNew (o := .lst ([v1, v2] ++ [.ref Lz, .ref b6, .ref b8, .ref p9, .ref p10])) nN
          have s4N := s4M.trans sN
          have oN := (D4.same s4M).off nN
          have sMN := sM.trans sN
          refine restB _ _ ⟨N, _, [d1, d2] ++ [.list ds, .tuple es6, .tuple (ds ++ es7), .tuple ds.reverse, .tuple [.tuple ds]], rfl, D4.same s4N, Ext.of s4N, upd_same, (hodd.lasts (.of s4N)).app (.cons (hz.lasts (.of ((s6.trans s7).trans (s8.trans (s9.trans (s10.trans sMN)))))) (.cons (h6.lasts (.of (s7.trans (s8.trans (s9.trans (s10.trans sMN)))))) (.cons (h8.lasts (.of (s9.trans (s10.trans sMN)))) (.cons (h9.lasts (.of (s10.trans sMN))) (.cons (h10.lasts (.of sMN)) .nil))))), by simp, by simp, oN.1, oN.2.2⟩
        · refine ⟨v, rfl, v, .ty "int", _, _, _, rfl, .ty _, hd4.ty, kit_int d, _, rfl, ite2 (fun h2 => ?_) (fun h2 => restB _ _ ⟨Lo, _, _, rfl, D4, Ext.of (Same.refl _), eLo, hodd, by simp, by simp, oL1, oL2⟩)⟩
          obtain ⟨i, rfl⟩ : ∃ i, d = .int i := by
            match n, hs with
            | 0, hs => exact hs.elim
            | 1, hs => exact hs
            | m + 2, hs => obtain ⟨ds', e, _⟩ := hs; subst e; simp [isTup] at h1
          obtain rfl : v = .int i := by cases hd; rfl
          refine ⟨.ref Lo, rfl, .int i, rfl, _, _, rfl, rfl, .int i, rfl, _, _, rfl, rfl, .int i, rfl, _, _, rfl, rfl, _, _, rfl, rfl, ⟨by decide, by decide, by decide⟩, _, _, rfl, rfl, ⟨by decide, by decide, by decide⟩, _, _, rfl, rfl, (show (6 : Nat) ≤ sizeLine by decide), fun M nM => ?_⟩
          have sM := sameNew (o := .lst [V.int (i + 1), V.int (i - 1), V.int (0 - i), V.int ((10 : Int) ^ (12 : Int).toNat), V.int (0 - (10 : Int) ^ (12 : Int).toNat), V.int 0]) nM
          refine ⟨Lo, M, _, _, rfl, rfl, sM _ _ eLo, upd_same, by simp only [List.length_cons, List.length_nil]; decide, fun N nN => ?_⟩
          have sN := sameNew (o := .lst ([v1, v2] ++ [V.int (i + 1), V.int (i - 1), V.int (0 - i), V.int ((10 : Int) ^ (12 : Int).toNat), V.int (0 - (10 : Int) ^ (12 : Int).toNat), V.int 0])) nN
          have s4N := sM.trans sN
          have oN := (D4.same sM).off nN
          exact restB _ _ ⟨N, _, [d1, d2] ++ [.int (i + 1), .int (i - 1), .int (0 - i), .int ((10 : Int) ^ (12 : Int).toNat), .int (0 - (10 : Int) ^ (12 : Int).toNat), .int 0], rfl, D4.same s4N, Ext.of s4N, upd_same, (hodd.lasts (.of s4N)).app (.cons (.int _) (.cons (.int _) (.cons (.int _) (.cons (.int _) (.cons (.int _) (.cons (.int _) .nil)))))), by simp, by simp, oN.1, oN.2.2⟩
end
end Pv

namespace Pv
open PySem PySem.Spec PyProof.Rows L2
abbrev sSm : Stmt := topS 30
theorem scSm : FnScope ["_law_found", "_law_due"] ["_law_found", "_law_due"] (defScope sSm) := ⟨rfl, rfl, rfl, by decide +kernel, rfl, by decide +kernel, by decide +kernel⟩
abbrev sTo : Stmt := topS 48
theorem scTo : FnScope ["_law_instance", "_law_weights_here", "_law_prices_here", "error", "_law_others"] ["_law_instance", "_law_weights_here", "_law_prices_here"] (defScope sTo) := ⟨rfl, rfl, rfl, by decide +kernel, rfl, by decide +kernel, by decide +kernel⟩
section
variable {P : Program} {w : World} {K : PySem.W.Frag} {mg : Str → Option Value} {base : Heap}
def spSm (K : PySem.W.Frag) : Sp := fun vs H Q _ => ∃ (v1 v2 : V) (d1 d2 : PyData) (st r : Addr), vs = [v1, v2] ∧ Dq K st r H v1 d1 ∧ Dq K st r H v2 d2 ∧ (d1.showable = true ∧ d1.depth ≤ 60 ∧ d1.shown.length ≤ sizeLine) ∧ (d2.showable = true ∧ d2.depth ≤ 60 ∧ d2.shown.length ≤ sizeLine) ∧ d1 = d2 ∧ Q (.bl true) H
theorem ok_Sm {f : Addr} {fd : FuncData} (F : Fun K "_law_same" "_law_same" sSm f fd)
    (m_repr : mg "repr" = none) :
    FnG P w K mg base 1 f fd ["_law_found", "_law_due"] (spSm K) := by
  refine okG F scSm (fun vs H Q E h => ?_) (fun cdv A outer s H vs Q E hgd hr h => ?_)
  · obtain ⟨v1, v2, d1, d2, st, r, rfl, _⟩ := h; rfl
  · obtain ⟨v1, v2, d1, d2, st, r, rfl, h1, h2, s1, s2, rfl, q⟩ := h
    obtain ⟨a1, a2, a3⟩ := s1
    refine ⟨_, pss_one (ps_ret (pe_cmpR op_eq (pe_callB (call_reprA hgd (hu70 hr)) (by rfl) m_repr (by decide +kernel) (pa_cons (pv 0) pa_nil)) (pe_callB (call_reprA hgd (hu70 hr)) (by rfl) m_repr (by decide +kernel) (pa_cons (pv 1) pa_nil)) (nomark _))), ?_⟩
    refine ⟨v1, rfl, v1, d1, st, r, rfl, h1, a1, a2, a3, v2, rfl, v2, d1, st, r, rfl, h2, a1, a2, a3, rfl, ?_⟩
    rw [decide_eq_true rfl]
    exact q
def spTo (K : PySem.W.Frag) : Sp := fun vs H Q _ => ∃ (st r i wA : Addr) (v : V) (cs ws : List Int) (gs : List Gp) (d : PyData), vs = [.ref i, .ref wA, v] ∧ Dp K H (.ref i) (dInst cs gs) ∧ InsOk cs gs ∧ SqT K H wA (ws.map V.int) ∧ ws.length = gs.length ∧ (∀ x ∈ ws, x.natAbs ≤ 10 ^ 12) ∧ Dq K st r H v d ∧
  ∀ H', Same H H' → (prD cs gs d = false → Q (.str "bad") H') ∧ (∀ us vs : List Int, d = .tuple [dI us, dI vs] → prD cs gs d = true → Q (.int (bndOf cs gs ws us vs)) H')
def tsTo (K : PySem.W.Frag) (cBP cBV cNU cTM : Addr) (a : Addr) (cls : Value) (d : Option Addr) : TS :=
  tSeq (tAsg (tCB (rIsX K a cls d) (tCons (tVar 3) (tCons (tTup (tCons (tC (.ref cBV)) (tCons (tC (.ref cNU)) (tCons (tC (.ref cTM)) tNil)))) tNil))) (gName 4))
    (tRet (tOp (rIxL K) (tLst (tCons (tC (.str "other")) (tCons (tC (.str "bad")) tNil))) (tCB (fun xs H Q => (∃ i, xs = [.int i] ∧ Q (.int i) H) ∨ ∃ k, xs = [.bl k] ∧ Q (.int (if k then 1 else 0)) H)
      (tCons (tAndV (tCB (rIsX K a cls d) (tCons (tVar 3) (tCons (tC (.ref cBP)) tNil))) (tAndV (tCB (rIsX K a cls d) (tCons (tVar 3) (tCons (tC (.ty "ValueError")) tNil))) (tNotV (tVar 4)))) tNil))))
theorem ok_To {f fPb cBP cVE cBV cNU cTM : Addr} {fd fdPb : FuncData} (F : Fun K "_law_told" "_law_told" sTo f fd)
    (FPb : Fun K "price_bound" "price_bound" sPb fPb fdPb) (bPb : Binds K fdPb ["instance", "weights", "prices"] []) (gPb : mg "price_bound" = some (.ref fPb)) (GPb : FnOk P w K mg base (L2.CX P w) 6 fPb fdPb ["instance", "weights", "prices"] (spPb K cBP))
    (gBP : mg "BadPrices" = some (.ref cBP)) (gVE : mg "VoteError" = some (.ref cVE)) (gBV : mg "BadVector" = some (.ref cBV)) (gNU : mg "NoUnbeaten" = some (.ref cNU)) (gTM : mg "TooMany" = some (.ref cTM)) (IC : IsC K cBP)
    (x1 : PySem.W.exmOne K (.ref cBP) (.ref cVE) = some true) (x2 : PySem.W.kitOne K (.ref cBP) (.ref cBP) = some true) (x3 : PySem.W.kitOne K (.ref cBP) (.type "ValueError") = some true) (x4 : PySem.W.kitAny K (.ref cBP) [.ref cBV, .ref cNU, .ref cTM] = some false)
    (m_isinstance : mg "isinstance" = none) (m_int : mg "int" = none) (m_ValueError : mg "ValueError" = none) :
    FnOk P w K mg base CX0 7 f fd ["_law_instance", "_law_weights_here", "_law_prices_here"] (spTo K) := by
  refine F.ok scTo (fun vs H Q E h => ?_) (fun cdv A outer s H vs Q E hr h => ?_)
  · obtain ⟨st, r, i, wA, v, cs, ws, gs, d, rfl, _⟩ := h; rfl
  · obtain ⟨st, r, i, wA, v, cs, ws, gs, d, rfl, hI, ok, hW, lw, bw, hv, q⟩ := h
    refine ⟨_, pss_one (ps_try_as (i := 3) (tb := fun W => tRet (tCallS (spPb K cBP) (WE W) (tCons (tVar 0) (tCons (tVar 1) (tCons (tVar 2) tNil))))) (ts := tsTo K cBP cBV cNU cTM) (Wout := fun _ _ _ _ => False) rfl rfl scTo.nd rfl rfl ⟨rfl, by decide, Or.inl gVE⟩ takes0
        (fun W pn xe tk _ => pss_one (ps_ret (by exact (pe_callS GPb (hr.mono (by omega)) rfl gPb FPb.kp bPb (fun σ => passAt tk σ) (by exact (pa_cons (pv 0) (pa_cons (pv 1) (pa_cons (pv 2) pa_nil))))))))
        (fun a oe cls d pn hz hf => by
          refine pss_cons (ps_set (i := 4) scTo.nd rfl (.inl rfl) (pe_callB (call_isX hz hf) (by rfl) m_isinstance (by decide +kernel) (pa_cons (pv 3) (pa_cons (pe_tup (pa_cons (pe_glob (v := .ref cBV) (by rfl) gBV rfl) (pa_cons (pe_glob (v := .ref cNU) (by rfl) gNU rfl) (pa_cons (pe_glob (v := .ref cTM) (by rfl) gTM rfl) pa_nil)))) pa_nil))))
            (pss_one (ps_ret (pe_ix ix_list (pe_lst (pa_cons pe_str (pa_cons pe_str pa_nil))) (pe_callTy call_int1 (by rfl) m_int (by decide +kernel) (pa_cons (pe_and (pe_callB (call_isX hz hf) (by rfl) m_isinstance (by decide +kernel) (pa_cons (pv 3) (pa_cons (pe_glob (v := .ref cBP) (by rfl) gBP rfl) pa_nil))) (pe_and (pe_callB (call_isX hz hf) (by rfl) m_isinstance (by decide +kernel) (pa_cons (pv 3) (pa_cons (pe_bltn (v := .ty "ValueError") (by rfl) m_ValueError (by decide +kernel) rfl) pa_nil))) (pe_one (pe_not (pv 4))))) pa_nil)) (fun _ _ => rfl)))))), ?_⟩
    refine ⟨.ref i, rfl, .ref wA, rfl, v, rfl, st, r, i, wA, v, cs, ws, gs, d, rfl, hI, ok, hW, lw, bw, hv, fun H2 s2 => ⟨fun hc => ?_, fun us vs' e hc => ?_⟩⟩
    · refine ⟨true, x1, fun _ e ne => ?_, fun z => nomatch z⟩
      refine ⟨.ref e, rfl, (show (3 : Nat) ≤ sizeLine by decide), fun T nT => ?_⟩
      refine ⟨cBP, .ref T, false, rfl, IC, (fun _ z => nomatch z), rfl, .inr ⟨T, _, _, rfl, upd_same, .cons (.own _) (.cons (.own _) (.cons (.own _) .nil)), x4⟩, ?_⟩
      refine ⟨(show (2 : Nat) ≤ sizeLine by decide), fun L nL => ?_⟩
      refine ⟨.ref e, rfl, cBP, .ref cBP, true, rfl, IC, (fun _ z => nomatch z), rfl, .inl ⟨_, .own _, x2⟩, _, rfl, iteT ?_⟩
      refine ⟨.ref e, rfl, cBP, .ty "ValueError", true, rfl, IC, (fun _ z => nomatch z), rfl, .inl ⟨_, .ty _, x3⟩, _, rfl, iteT ?_⟩
      refine ⟨.bl false, rfl, _, rfl, .inr ⟨_, rfl, ?_⟩⟩
      refine ⟨L, _, _, _, rfl, rfl, SqL.of upd_same, rfl, ?_⟩
      exact (q _ ((s2.trans (sameNew nT)).trans (sameNew nL))).1 hc
    · exact (q H2 s2).2 us vs' e hc
end
end Pv

namespace Pv
open PySem PySem.Spec PyProof.Rows L2
abbrev sIv : Stmt := topS 39
theorem scIv : FnScope ["_law_instance", "_law_value_here", "_law_groups", "_law_demand", "_law_excess", "_law_free", "_law_crowded", "_law_rows", "_law_capacities", "_law_movable", "_law_post", "_law_leaving", "_law_group", "_law_first", "_law_reserve"] ["_law_instance", "_law_value_here"] (defScope sIv) := ⟨rfl, rfl, rfl, by decide +kernel, rfl, by decide +kernel, by decide +kernel⟩
theorem fm_nil {n : Nat} {F : Int → Option V} (h : (upTo n).filterMap F = []) {j : Nat} (hj : j < n) : F (j : Int) = none :=
  List.filterMap_eq_nil_iff.mp h _ (List.mem_of_getElem? (upTo_at hj))
theorem vec_by {cs : List Int} {gs : List Gp} {xs : List Int} (ok : InsOk cs gs) (hl : xs.length = gs.length) (hb : ∀ (j : Nat) (g : Gp), gs[j]? = some g → 0 ≤ xs.getD j 0 ∧ xs.getD j 0 ≤ g.2)
    (hr : ∀ (j : Nat) (g : Gp), gs[j]? = some g → 0 < xs.getD j 0 → routeOf cs gs g ≠ none)
    (hp : ∀ q : Nat, q < cs.length → ((rCro cs gs).contains (q : Int) = true → S1 cs gs xs q = (rExc cs gs).getD q 0) ∧ S2 cs gs xs q ≤ (rFre cs gs).getD q 0) : IsVec cs gs xs := by
  refine ⟨hl, fun j g x hg hx => ?_, ?_⟩
  · have := hb j g hg
    rw [List.getD_eq_getElem?_getD, hx] at this
    exact this
  rw [meets_sums ok]
  refine ⟨fun z hz hn => ?_, fun q hq => ?_, fun q hq => ?_⟩
  · obtain ⟨j, g, hg, rfl⟩ := zs_elim hl hz
    have h1 := hb j g hg
    by_cases h0 : 0 < xs.getD j 0
    · exact absurd hn (hr j g hg h0)
    · show xs.getD j 0 = 0; omega
  · by_cases hs : 0 ≤ spOf cs gs (q : Int)
    · have e : S1 cs gs xs q = 0 := mov_zero ok hs
      show S1 cs gs xs q = _
      rw [e]; unfold mx; rw [if_neg (by omega)]
    · have hc : (rCro cs gs).contains (q : Int) = true := by rw [List.contains_iff_mem, cro_mem]; exact ⟨by omega, by omega⟩
      show S1 cs gs xs q = _
      rw [(hp q hq).1 hc, exc_getD hq]
  · have := (hp q hq).2
    rw [fre_getD hq] at this
    exact this
theorem andR {A B C : Prop} {P1 P2 : Bool} (hA : P1 = true → (P2 = true → B) → (P2 = false → C) → A) (hB : (P1 && P2) = true → B) (hC : (P1 && P2) = false → C) : if P1 = true then A else C := by
  cases P1 with
  | true => exact iteT (hA rfl (fun h => hB (by rw [h]; rfl)) (fun h => hC (by rw [h]; rfl)))
  | false => exact iteF (hC rfl)
section
variable {P : Program} {w : World} {K : PySem.W.Frag} {mg : Str → Option Value} {base : Heap}
def spIv (K : PySem.W.Frag) : Sp := fun vs H Q _ => ∃ (i x : Addr) (cs xs : List Int) (gs : List Gp), vs = [.ref i, .ref x] ∧ Dp K H (.ref i) (dInst cs gs) ∧ InsOk cs gs ∧ SqT K H x (xs.map V.int) ∧ xs.length = gs.length ∧ ∀ H' b, Same H H' → (b = true → IsVec cs gs xs) → Q (.bl b) H'
set_option maxHeartbeats 16000000 in
theorem ok_Iv {f fWh fFa : Addr} {fd fdWh fdFa : FuncData} (F : Fun K "_law_is_vector" "_law_is_vector" sIv f fd)
    (FWh : Fun K "_law_whole" "_law_whole" sWh fWh fdWh) (bWh : Binds K fdWh ["_law_value_here", "_law_low", "_law_high"] []) (gWh : mg "_law_whole" = some (.ref fWh)) (GWh : FnOk P w K mg base CX0 1 fWh fdWh ["_law_value_here", "_law_low", "_law_high"] (spWithin K))
    (FFa : Fun K "_law_facts" "_law_facts" sFa fFa fdFa) (bFa : Binds K fdFa ["_law_instance"] []) (gFa : mg "_law_facts" = some (.ref fFa)) (GFa : FnOk P w K mg base CX0 1 fFa fdFa ["_law_instance"] (spFa K))
    (m_tuple : mg "tuple" = none) (m_isinstance : mg "isinstance" = none) (m_len : mg "len" = none) (m_range : mg "range" = none) (m_sum : mg "sum" = none) :
    FnOk P w K mg base CX0 2 f fd ["_law_instance", "_law_value_here"] (spIv K) := by
  refine F.ok scIv (fun vs H Q E h => ?_) (fun cdv A outer s H vs Q E hr h => ?_)
  · obtain ⟨i, x, cs, xs, gs, rfl, _⟩ := h; rfl
  · obtain ⟨i, x, cs, xs, gs, rfl, hI, ok, hX, hl, q⟩ := h
    have hu0 : (A.deeper (envOfC "_law_is_vector" (defScope sIv) s.heap.objs.size f cdv)).units < cLine := by have := hr.un; omega
    have hu64 : (A.deeper (envOfC "_law_is_vector" (defScope sIv) s.heap.objs.size f cdv)).units + 64 < cLine := by have := hr.un; omega
    refine ⟨_, pss_cons (ps_set (i := 2) scIv.nd rfl (.inr rfl) (pe_ix ix_tup (pv 0) (pe_int) (fun _ _ => rfl)))
      (pss_cons (ps_if (PW.pt (pw_or (pt_not (pt_val (pe_callB call_isi (by rfl) m_isinstance (by decide +kernel) (pa_cons (pv 1) (pa_cons (pe_bltn (v := .ty "tuple") (by rfl) m_tuple (by decide +kernel) rfl) pa_nil))))) (pw_or1 (pt_cmpR op_ne (pe_callB call_lenQ (by rfl) m_len PySem.boot_len (pa_cons (pv 1) pa_nil)) (pe_callB call_lenQ (by rfl) m_len PySem.boot_len (pa_cons (pv 2) pa_nil)) (nomark _)))))
        (pss_one (ps_ret (pe_bl))) pss_nil)
      (pss_cons (ps_if (pt_cmpR (op_neNil hu0) (pe_lc (own := [("_law_group", 12)]) (g := gName 12) (tt := tNot (tB (tCall (spWithin K) [] E0 (tCons (tOp (rIxT K) (tVar 1) (tVar 12)) (tCons (tC (.int 0)) (tCons (tOp (rIxT K) (tOp (rIxT K) (tVar 2) (tVar 12)) (tC (.int 1))) tNil)))))) (te := tVar 12) rfl scIv.nd (pi_range1 (by rfl) m_range (pa_cons (pe_callB call_lenQ (by rfl) m_len PySem.boot_len (pa_cons (pv 2) pa_nil)) pa_nil)) (blkOk_by (N := ["_law_instance", "_law_value_here", "_law_groups", "_law_demand", "_law_excess", "_law_free", "_law_crowded", "_law_rows", "_law_capacities", "_law_movable", "_law_post", "_law_leaving", "_law_group", "_law_first", "_law_reserve"]) (sc := defScope sIv) (by decide +kernel)) (fun _ _ _ _ _ => pg_name (i := 12) scIv.nd rfl (.inl rfl)) (fun _ _ _ _ _ => pts_one (pt_not (pt_val (pe_call GWh (hr.mono (by omega)) (by rfl) gWh FWh.kp bWh .nil pass0 (pa_cons (pe_ix ix_tup (pv 1) (pv 12) (fun _ _ => rfl)) (pa_cons (pe_int) (pa_cons (pe_ix ix_tup (pe_ix ix_tup (pv 2) (pv 12) (fun _ _ => rfl)) (pe_int) (fun _ _ => rfl)) pa_nil))))))) (fun _ _ _ _ _ => pv 12)) (pe_lst (pa_nil)) (nomark _))
        (pss_one (ps_ret (pe_bl))) pss_nil)
      (pss_cons (ps_asg (pe_call GFa (hr.mono (by omega)) (by rfl) gFa FFa.kp bFa .nil pass0 (pa_cons (pv 0) pa_nil)) (pg_unl rfl (pgs_cons (pg_name (i := 3) scIv.nd rfl (.inl rfl)) (pgs_cons (pg_name (i := 4) scIv.nd rfl (.inl rfl)) (pgs_cons (pg_name (i := 5) scIv.nd rfl (.inl rfl)) (pgs_cons (pg_name (i := 6) scIv.nd rfl (.inl rfl)) (pgs_cons (pg_name (i := 7) scIv.nd rfl (.inl rfl)) (pgs_cons (pg_name (i := 8) scIv.nd rfl (.inl rfl)) pgs_nil))))))))
      (pss_cons (ps_set (i := 9) scIv.nd rfl (.inr rfl) (pe_lc (own := [("_law_group", 12), ("_law_first", 13), ("_law_reserve", 14)]) (g := gTup K 3 (gCons (gName 12) (gCons (gName 13) (gCons (gName 14) gNil)))) (tt := tYes) (te := tVar 12) rfl scIv.nd (pi_list (pv 7)) (blkOk_by (N := ["_law_instance", "_law_value_here", "_law_groups", "_law_demand", "_law_excess", "_law_free", "_law_crowded", "_law_rows", "_law_capacities", "_law_movable", "_law_post", "_law_leaving", "_law_group", "_law_first", "_law_reserve"]) (sc := defScope sIv) (by decide +kernel)) (fun _ _ _ _ _ => pg_tup rfl (pgs_cons (pg_name (i := 12) scIv.nd rfl (.inl rfl)) (pgs_cons (pg_name (i := 13) scIv.nd rfl (.inl rfl)) (pgs_cons (pg_name (i := 14) scIv.nd rfl (.inl rfl)) pgs_nil)))) (fun _ _ _ _ _ => pts_nil) (fun _ _ _ _ _ => pv 12)))
      (pss_cons (ps_if (pt_cmpR (op_neNil hu0) (pe_lc (own := [("_law_group", 12)]) (g := gName 12) (tt := tAnd (tTest (tOp (rI0 fun i j => .bl (decide (j < i))) (tOp (rIxT K) (tVar 1) (tVar 12)) (tC (.int 0)))) (tTest (tOp (rIn K true) (tVar 12) (tVar 9)))) (te := tVar 12) rfl scIv.nd (pi_range1 (by rfl) m_range (pa_cons (pe_callB call_lenQ (by rfl) m_len PySem.boot_len (pa_cons (pv 2) pa_nil)) pa_nil)) (blkOk_by (N := ["_law_instance", "_law_value_here", "_law_groups", "_law_demand", "_law_excess", "_law_free", "_law_crowded", "_law_rows", "_law_capacities", "_law_movable", "_law_post", "_law_leaving", "_law_group", "_law_first", "_law_reserve"]) (sc := defScope sIv) (by decide +kernel)) (fun _ _ _ _ _ => pg_name (i := 12) scIv.nd rfl (.inl rfl)) (fun _ _ _ _ _ => pts_one (PW.pt (pw_and (pt_cmpR op_gt (pe_ix ix_tup (pv 1) (pv 12) (fun _ _ => rfl)) (pe_int) (nomark _)) (pw_and1 (pt_cmpR op_notIn_seq (pv 12) (pv 9) (by rfl)))))) (fun _ _ _ _ _ => pv 12)) (pe_lst (pa_nil)) (nomark _))
        (pss_one (ps_ret (pe_bl))) pss_nil)
      (pss_cons (ps_for PassesOwn.never rfl (pi_range1 (by rfl) m_range (pa_cons (pe_callB call_lenQ (by rfl) m_len PySem.boot_len (pa_cons (pv 8) pa_nil)) pa_nil)) (pg_name (i := 10) scIv.nd rfl (.inr rfl))
        (pss_cons (ps_set (i := 11) scIv.nd rfl (.inl rfl) (pe_callB (cr_sum rfl) (by rfl) m_sum (by decide +kernel) (pa_cons (pe_lc (own := [("_law_group", 12), ("_law_first", 13), ("_law_reserve", 14)]) (g := gTup K 3 (gCons (gName 12) (gCons (gName 13) (gCons (gName 14) gNil)))) (tt := tTest (tOp rEq (tVar 13) (tVar 10))) (te := tOp (rIxT K) (tVar 1) (tVar 12)) rfl scIv.nd (pi_list (pv 7)) (blkOk_by (N := ["_law_instance", "_law_value_here", "_law_groups", "_law_demand", "_law_excess", "_law_free", "_law_crowded", "_law_rows", "_law_capacities", "_law_movable", "_law_post", "_law_leaving", "_law_group", "_law_first", "_law_reserve"]) (sc := defScope sIv) (by decide +kernel)) (fun _ _ _ _ _ => pg_tup rfl (pgs_cons (pg_name (i := 12) scIv.nd rfl (.inl rfl)) (pgs_cons (pg_name (i := 13) scIv.nd rfl (.inl rfl)) (pgs_cons (pg_name (i := 14) scIv.nd rfl (.inl rfl)) pgs_nil)))) (fun _ _ _ _ _ => pts_one (pt_cmpR op_eq (pv 13) (pv 10) (nomark _))) (fun _ _ _ _ _ => pe_ix ix_tup (pv 1) (pv 12) (fun _ _ => rfl))) pa_nil)))
        (pss_cons (ps_if (PW.pt (pw_and (pt_cmpR op_in_seq (pv 10) (pv 6) (by rfl)) (pw_and1 (pt_cmpR op_ne (pv 11) (pe_ix ix_list (pv 4) (pv 10) (fun _ _ => rfl)) (nomark _)))))
          (pss_one (ps_ret (pe_bl))) pss_nil)
        (pss_one (ps_if (pt_cmpR op_gt (pe_callB (cr_sum rfl) (by rfl) m_sum (by decide +kernel) (pa_cons (pe_lc (own := [("_law_group", 12), ("_law_first", 13), ("_law_reserve", 14)]) (g := gTup K 3 (gCons (gName 12) (gCons (gName 13) (gCons (gName 14) gNil)))) (tt := tTest (tOp rEq (tVar 14) (tVar 10))) (te := tOp (rIxT K) (tVar 1) (tVar 12)) rfl scIv.nd (pi_list (pv 7)) (blkOk_by (N := ["_law_instance", "_law_value_here", "_law_groups", "_law_demand", "_law_excess", "_law_free", "_law_crowded", "_law_rows", "_law_capacities", "_law_movable", "_law_post", "_law_leaving", "_law_group", "_law_first", "_law_reserve"]) (sc := defScope sIv) (by decide +kernel)) (fun _ _ _ _ _ => pg_tup rfl (pgs_cons (pg_name (i := 12) scIv.nd rfl (.inl rfl)) (pgs_cons (pg_name (i := 13) scIv.nd rfl (.inl rfl)) (pgs_cons (pg_name (i := 14) scIv.nd rfl (.inl rfl)) pgs_nil)))) (fun _ _ _ _ _ => pts_one (pt_cmpR op_eq (pv 14) (pv 10) (nomark _))) (fun _ _ _ _ _ => pe_ix ix_tup (pv 1) (pv 12) (fun _ _ => rfl))) pa_nil)) (pe_ix ix_list (pv 5) (pv 10) (fun _ _ => rfl)) (nomark _))
          (pss_one (ps_ret (pe_bl))) pss_nil)))))
      (pss_one (ps_ret (pe_bl))))))))), ?_⟩
    obtain ⟨_, ca, ga, ys, e0, hi, hc, hgt, hgs⟩ := inst_open hI
    cases e0
    have lx := DpAll.len hgs
    rw [List.length_map] at lx
    have h6 := ok.c6
    have h10 := ok.g10
    have no : ∀ H', Same H H' → Q (.bl false) H' := fun H' s => q H' false s (fun h => nomatch h)
    have hv : Dq K 0 0 H (.ref x) (dI xs) := .of_dp (to_ints xs) (dI_sq hX)
    refine ⟨.ref i, rfl, i, _, 1, .ref ga, rfl, rfl, hi, atI_nat (j := 1) rfl, ?_⟩
    refine ⟨.ref x, rfl, .ref x, .ty "tuple", _, _, _, rfl, .ty _, hv.ty, kit_tup _, _, rfl, iteFF rfl ?_⟩
    refine ⟨.ref x, rfl, x, _, rfl, .inr hX, .ref ga, rfl, ga, _, rfl, .inr hgt, rfl, _, rfl, ite2 (fun _ => no _ (Same.refl _)) (fun _ => ?_)⟩
    -- whole, within
    refine ⟨.ref ga, rfl, ga, _, rfl, .inr hgt, _, rfl, by omega, by omega, fun D nD => lc_it (walk_range (lo := 0) (n := ((ys.length : Nat) : Int).toNat)) (LcP H D (upTo gs.length) (fun j => if withinD 0 (gs.getD j.toNat ([], 0)).2 (.int (xs.getD j.toNat 0)) = true then none else some (.int j))) (.start nD) (fun _ _ _ _ => trivial) ?_ ?_⟩
    · rintro j v H2 H3 hlt hL ⟨rfl, rfl⟩
      have hj : j < gs.length := by omega
      have hgj : gs[j]? = some (gs.getD j ([], 0)) := by rw [List.getD_eq_getElem?_getD, List.getElem?_eq_getElem hj]; rfl
      obtain ⟨gA, pA, hxg, hG, hP⟩ := grp_at hgs hgj
      rw [show (fun i : Nat => V.int (0 + (i : Int))) = fun i : Nat => V.int (i : Int) from funext fun i => by rw [Int.zero_add]]
      refine ⟨rfl, .ref x, rfl, .int (j : Nat), rfl, x, _, j, .int (xs.getD j 0), rfl, rfl, sqS hL.1 hX, atI_nat (atD2 (by omega)), .ref ga, rfl, .int (j : Nat), rfl, ga, _, j, .ref gA, rfl, rfl, sqS hL.1 hgt, atI_nat hxg, gA, _, 1, .int (gs.getD j ([], 0)).2, rfl, rfl, sqS hL.1 hG, atI_nat (j := 1) rfl, 0, 0, _, .int (xs.getD j 0), _, _, rfl, .int _, _, rfl, ?_⟩
      have hz := upTo_at hj
      cases hw : withinD 0 (gs.getD j ([], 0)).2 (.int (xs.getD j 0)) with
      | true => exact iteF (hL.no (Same.refl _) hz (by rw [Int.toNat_natCast, if_pos hw]))
      | false => exact iteT ⟨_, rfl, hL.yes (y := .int (j : Nat)) nD (Same.refl _) hz (by rw [Int.toNat_natCast, hw]; rfl) (by omega)⟩
    rintro H1 hL
    have eD := hL.done (by rw [upTo_len]; omega)
    have s1 := hL.1
    refine ⟨Nat.zero_le _, fun Em nEm => ⟨D, Em, _, rfl, rfl, SqL.of (upNew nEm eD), SqL.of upd_same, _, rfl, ?_⟩⟩
    have s2 := s1.trans (sameNew (o := .lst []) nEm)
    refine ite2 (fun _ => no _ s2) (fun hE1 => ?_)
    have hE1 : (upTo gs.length).filterMap (fun j => if withinD 0 (gs.getD j.toNat ([], 0)).2 (.int (xs.getD j.toNat 0)) = true then none else some (V.int j)) = [] := by simpa using hE1
    have hb : ∀ (j : Nat) (g : Gp), gs[j]? = some g → 0 ≤ xs.getD j 0 ∧ xs.getD j 0 ≤ g.2 := fun j g hg => by
      have hj := (List.getElem?_eq_some_iff.mp hg).1
      have h := fm_nil hE1 hj
      rw [Int.toNat_natCast, List.getD_eq_getElem?_getD, hg] at h
      simp only [Option.getD_some] at h
      split at h
      · rename_i h2; exact of_decide_eq_true h2
      · cases h
    clear hL eD hE1
    generalize upd H1 Em (.lst []) = H2 at s2
    -- the facts
    refine ⟨.ref i, rfl, i, cs, gs, rfl, (TupK.of s2).dp _ _ (to_dInst _ _) hI, ok, fun H3 p d e f cr w ca' rs s3 fp fd0 Fc => ?_⟩
    refine ⟨p, _, rfl, SqL.of Fc.eP, rfl, _, _, rfl, _, _, rfl, _, _, rfl, _, _, rfl, _, _, rfl, _, _, rfl, rfl, ?_⟩
    have s03 := s2.trans s3
    have hrs := Fc.rw
    generalize hRR : rowsTo cs gs gs.length = RR at hrs
    have lRR : RR.length ≤ 10 := by rw [← hRR]; have := rowsTo_len cs gs gs.length; omega
    refine ⟨.ref w, rfl, w, rfl, ⟨_, SqL.of Fc.eW⟩, fun Mv nMv => lc_it (walk_list (K := K) (a := w) (xs := rs)) (LcP H3 Mv RR (fun r => some (.int (r.1 : Nat)))) (.start nMv) (fun j H _ h => SqL.of (h.1 _ _ Fc.eW)) ?_ ?_⟩
    · rintro m v H8 H9 hm hM ⟨rfl, hv⟩
      obtain ⟨r, hr, hrv⟩ := hrs.at hv
      obtain ⟨T3, rfl, hT3⟩ := hrv.tk (TupK.of hM.1)
      have := hrs.1
      exact ⟨T3, _, rfl, hT3, rfl, _, _, rfl, _, _, rfl, _, _, rfl, rfl, rfl, _, rfl, hM.yes nMv (Same.refl _) hr rfl (by omega)⟩
    rintro H4 hM
    have eM := hM.done (Nat.le_of_eq hrs.1.symm)
    rw [fm_mapI (fun (r : Rw) => (r.1 : Int))] at eM
    have F4 := Fc.same hM.1
    have s04 := s03.trans hM.1
    clear hM
    -- only the movable
    refine ⟨.ref ga, rfl, ga, _, rfl, .inr (sqS s04 hgt), _, rfl, by omega, by omega, fun D2 nD2 => lc_it (walk_range (lo := 0) (n := ((ys.length : Nat) : Int).toNat)) (LcP H4 D2 (upTo gs.length) (fun j => if 0 < xs.getD j.toNat 0 ∧ (RR.map (fun (r : Rw) => (r.1 : Int))).contains j = false then some (.int j) else none)) (.start nD2) (fun _ _ _ _ => trivial) ?_ ?_⟩
    · rintro j v H5 H6 hlt hL ⟨rfl, rfl⟩
      have hj : j < gs.length := by omega
      rw [show (fun i : Nat => V.int (0 + (i : Int))) = fun i : Nat => V.int (i : Int) from funext fun i => by rw [Int.zero_add]]
      have hz := upTo_at hj
      refine ⟨rfl, .ref x, rfl, .int (j : Nat), rfl, x, _, j, .int (xs.getD j 0), rfl, rfl, sqS (s04.trans hL.1) hX, atI_nat (atD2 (by omega)), _, _, rfl, rfl, _, rfl, ?_⟩
      by_cases h0 : 0 < xs.getD j 0
      · refine iteTT (decide_eq_true h0) ?_
        refine ⟨.int (j : Nat), rfl, .ref Mv, rfl, Mv, _, rfl, .inl (SqL.of (hL.1 _ _ eM)), rfl, flat_ints _, _, rfl, ?_⟩
        rw [if_pos rfl, inV_ints]
        cases hcn : (RR.map (fun (r : Rw) => (r.1 : Int))).contains (j : Int) with
        | true => exact iteF (hL.no (Same.refl _) hz (by rw [if_neg (fun z => by rw [hcn] at z; exact nomatch z.2)]))
        | false => exact iteT ⟨_, rfl, hL.yes (y := .int (j : Nat)) nD2 (Same.refl _) hz (by rw [if_pos ⟨by rw [Int.toNat_natCast]; exact h0, hcn⟩]) (by omega)⟩
      · exact iteFF (decide_eq_false h0) (hL.no (Same.refl _) hz (by rw [if_neg (fun z => h0 (by have := z.1; rwa [Int.toNat_natCast] at this))]))
    rintro H5 hL
    have eD := hL.done (by rw [upTo_len]; omega)
    refine ⟨Nat.zero_le _, fun Em2 nEm2 => ⟨D2, Em2, _, rfl, rfl, SqL.of (upNew nEm2 eD), SqL.of upd_same, _, rfl, ?_⟩⟩
    have s46 := hL.1.trans (sameNew (o := .lst []) nEm2)
    have s06 := s04.trans s46
    have F6 := F4.same s46
    refine ite2 (fun _ => no _ s06) (fun hE2 => ?_)
    have hE2 : (upTo gs.length).filterMap (fun j => if 0 < xs.getD j.toNat 0 ∧ (RR.map (fun (r : Rw) => (r.1 : Int))).contains j = false then some (V.int j) else none) = [] := by simpa using hE2
    have hr : ∀ (j : Nat) (g : Gp), gs[j]? = some g → 0 < xs.getD j 0 → routeOf cs gs g ≠ none := fun j g hg h0 hn => by
      have hj := (List.getElem?_eq_some_iff.mp hg).1
      have h := fm_nil hE2 hj
      rw [Int.toNat_natCast] at h
      have hcn : (RR.map (fun (r : Rw) => (r.1 : Int))).contains (j : Int) = false := by
        rw [← hRR, rows_has hj hj, (List.getElem?_eq_some_iff.mp hg).2, hn]; rfl
      rw [if_pos ⟨h0, hcn⟩] at h
      cases h
    clear hL eD hE2
    generalize upd H5 Em2 (.lst []) = H6 at s46 s06 F6
    -- the posts
    refine ⟨.ref ca', rfl, ca', _, rfl, .inr F6.ec, _, rfl, by rw [List.length_map]; omega, by rw [List.length_map]; omega, for_it (walk_range (lo := 0) (n := (((cs.map V.int).length : Nat) : Int).toNat))
      (fun j σ Hj => ∃ (y10 y11 : Option V), σ = [some (.ref i), some (.ref x), some (.ref ga), some (.ref d), some (.ref e), some (.ref f), some (.ref cr), some (.ref w), some (.ref ca'), some (.ref Mv), y10, y11, none, none, none] ∧ Same H6 Hj ∧ ∀ q : Nat, q < j → ((rCro cs gs).contains (q : Int) = true → S1 cs gs xs q = (rExc cs gs).getD q 0) ∧ S2 cs gs xs q ≤ (rFre cs gs).getD q 0)
      ⟨none, none, rfl, Same.refl _, fun q h => by omega⟩ (fun _ _ _ _ _ => trivial) ?_ ?_⟩
    · rintro j v σ Hx Hj hlt ⟨y10, y11, rfl, sj, hw⟩ ⟨rfl, rfl⟩
      rw [List.length_map] at hlt
      have hj : j < cs.length := by omega
      have Fj := F6.same sj
      have s0j := s06.trans sj
      have hrj := Fj.rw
      rw [hRR] at hrj
      rw [show (fun i : Nat => V.int (0 + (i : Int))) = fun i : Nat => V.int (i : Int) from funext fun i => by rw [Int.zero_add]]
      refine ⟨.ref w, rfl, w, rfl, ⟨_, SqL.of Fj.eW⟩, fun Le nLe => lc_it (walk_list (K := K) (a := w) (xs := rs)) (LcP Hj Le RR (fun r => if r.2.1 = (j : Int) then some (.int (xs.getD r.1 0)) else none)) (.start nLe) (fun m H _ h => SqL.of (h.1 _ _ Fj.eW)) ?_ ?_⟩
      · rintro m v H8 H9 hm hM ⟨rfl, hv⟩
        obtain ⟨r, hr0, hrv⟩ := hrj.at hv
        obtain ⟨T3, rfl, hT3⟩ := hrv.tk (TupK.of hM.1)
        have hR2 := hr0
        rw [← hRR] at hR2
        obtain ⟨_, _, _, _, _, hgl, _⟩ := row_open2 ok hR2
        have := hrj.1
        refine ⟨T3, _, rfl, hT3, rfl, _, _, rfl, _, _, rfl, _, _, rfl, rfl, rfl, .int r.2.1, rfl, .int (j : Nat), rfl, rfl, _, rfl, ?_⟩
        by_cases h1 : r.2.1 = (j : Int)
        · refine iteTT (decide_eq_true (by rw [h1])) ?_
          exact ⟨.ref x, rfl, .int (r.1 : Nat), rfl, x, _, r.1, .int (xs.getD r.1 0), rfl, rfl, sqS (s0j.trans hM.1) hX, atI_nat (atD2 (by omega)), hM.yes nLe (Same.refl _) hr0 (by rw [if_pos h1]) (by omega)⟩
        · exact iteFF (decide_eq_false (fun z => h1 (V.int.inj z))) (hM.no (Same.refl _) hr0 (by rw [if_neg h1]))
      rintro H7 hM
      have eL := hM.done (by rw [hrj.1]; exact Nat.le_refl _)
      rw [show RR.filterMap (fun r => if r.2.1 = (j : Int) then some (V.int (xs.getD r.1 0)) else none) = (RR.filterMap (fun r => if r.2.1 = (j : Int) then some (xs.getD r.1 0) else none)).map V.int by
        rw [List.map_filterMap]
        refine fm_cong fun r _ => ?_
        split <;> rfl] at eL
      have F7 := Fj.same hM.1
      have s07 := s0j.trans hM.1
      have sj7 := sj.trans hM.1
      refine ⟨Le, _, rfl, SqL.of eL, ?_⟩
      have hs1 : (RR.filterMap (fun r => if r.2.1 = (j : Int) then some (xs.getD r.1 0) else none)).sum = S1 cs gs xs j := by rw [← hRR]; exact rows_S1 hl j
      rw [hs1]
      clear hM eL
      refine ⟨.int (j : Nat), rfl, .ref cr, rfl, cr, _, rfl, .inl (SqL.of F7.eC), rfl, flat_ints _, _, rfl, ?_⟩
      rw [if_neg Bool.false_ne_true, inV_ints]
      refine andR (P1 := (rCro cs gs).contains (j : Int)) (P2 := !decide (S1 cs gs xs j = (rExc cs gs).getD j 0)) ?_ (fun _ => no _ s07) (fun hnc => ?_)
      case refine_1 =>
        intro h1 k1 k2
        refine ⟨.int (S1 cs gs xs j), rfl, .ref e, rfl, .int (j : Nat), rfl, e, _, j, .int ((rExc cs gs).getD j 0), rfl, rfl, SqL.of F7.eX, atI_nat (atD2 (by rw [rExc_len]; omega)), rfl, _, rfl, ?_⟩
        by_cases h2 : S1 cs gs xs j = (rExc cs gs).getD j 0
        · exact iteFF (by rw [h2]; simp) (k2 (by simp [h2]))
        · exact iteTT (by rw [decide_eq_false (fun z => h2 (V.int.inj z))]; rfl) (k1 (by rw [decide_eq_false h2]; rfl))
      have hrj7 := F7.rw
      rw [hRR] at hrj7
      refine ⟨.ref w, rfl, w, rfl, ⟨_, SqL.of F7.eW⟩, fun Lr nLr => lc_it (walk_list (K := K) (a := w) (xs := rs)) (LcP H7 Lr RR (fun r => if r.2.2.1 = some (j : Int) then some (.int (xs.getD r.1 0)) else none)) (.start nLr) (fun m H _ h => SqL.of (h.1 _ _ F7.eW)) ?_ ?_⟩
      · rintro m v H8 H9 hm hM ⟨rfl, hv⟩
        obtain ⟨r, hr0, hrv⟩ := hrj7.at hv
        obtain ⟨T3, rfl, hT3⟩ := hrv.tk (TupK.of hM.1)
        have hR2 := hr0
        rw [← hRR] at hR2
        obtain ⟨_, _, _, _, _, hgl, _⟩ := row_open2 ok hR2
        have := hrj7.1
        refine ⟨T3, _, rfl, hT3, rfl, _, _, rfl, _, _, rfl, _, _, rfl, rfl, rfl, oV r.2.2.1, rfl, .int (j : Nat), rfl, by cases r.2.2.1 <;> rfl, _, rfl, ?_⟩
        by_cases h1 : r.2.2.1 = some (j : Int)
        · refine iteTT (decide_eq_true (by rw [h1]; rfl)) ?_
          exact ⟨.ref x, rfl, .int (r.1 : Nat), rfl, x, _, r.1, .int (xs.getD r.1 0), rfl, rfl, sqS (s07.trans hM.1) hX, atI_nat (atD2 (by omega)), hM.yes nLr (Same.refl _) hr0 (by rw [if_pos h1]) (by omega)⟩
        · refine iteFF (decide_eq_false (fun z => h1 ?_)) (hM.no (Same.refl _) hr0 (by rw [if_neg h1]))
          cases hh : r.2.2.1 with
          | none => rw [hh] at z; cases z
          | some y => rw [hh] at z; exact congrArg some (V.int.inj z)
      rintro H8 hM
      have eL := hM.done (by rw [hrj7.1]; exact Nat.le_refl _)
      rw [show RR.filterMap (fun r => if r.2.2.1 = some (j : Int) then some (V.int (xs.getD r.1 0)) else none) = (RR.filterMap (fun r => if r.2.2.1 = some (j : Int) then some (xs.getD r.1 0) else none)).map V.int by
        rw [List.map_filterMap]
        refine fm_cong fun r _ => ?_
        split <;> rfl] at eL
      have F8 := F7.same hM.1
      have s08 := s07.trans hM.1
      have sj8 := sj7.trans hM.1
      refine ⟨Lr, _, rfl, SqL.of eL, ?_⟩
      have hs2 : (RR.filterMap (fun r => if r.2.2.1 = some (j : Int) then some (xs.getD r.1 0) else none)).sum = S2 cs gs xs j := by rw [← hRR]; exact rows_S2 hl j
      rw [hs2]
      refine ⟨.ref f, rfl, .int (j : Nat), rfl, f, _, j, .int ((rFre cs gs).getD j 0), rfl, rfl, SqL.of F8.eF, atI_nat (atD2 (by rw [rFre_len]; omega)), _, _, rfl, rfl, _, rfl, ?_⟩
      refine ite2 (fun _ => no _ s08) (fun h2 => ?_)
      have h2 : S2 cs gs xs j ≤ (rFre cs gs).getD j 0 := by
        have h3 : ¬ (rFre cs gs).getD j 0 < S2 cs gs xs j := fun z => h2 (decide_eq_true z)
        omega
      refine ⟨_, _, rfl, sj8, fun q hq => ?_⟩
      by_cases hqj : q < j
      · exact hw q hqj
      · have : q = j := by omega
        subst this
        refine ⟨fun hc => ?_, h2⟩
        rw [hc, Bool.true_and] at hnc
        simpa using hnc
    · rintro σ Hx ⟨y10, y11, rfl, sj, hw⟩
      rw [List.length_map] at hw
      exact q Hx true (s06.trans sj) (fun _ => vec_by ok hl hb hr (fun q hq => hw q (by omega)))
end
end Pv

namespace Pv
open PySem PySem.Spec PyProof.Rows L2
abbrev sVs : Stmt := topS 40
theorem scVs : FnScope ["_law_instance", "_law_found", "_law_order", "_law_count", "_law_longer", "_law_row", "_law_number"] ["_law_instance"] (defScope sVs) := ⟨rfl, rfl, rfl, by decide +kernel, rfl, by decide +kernel, by decide +kernel⟩
section
variable {P : Program} {w : World} {K : PySem.W.Frag} {mg : Str → Option Value} {base : Heap}
def PTn (K : PySem.W.Frag) (H : Hp) (n : Nat) (t : V) : Prop := ∃ (T : Addr) (xs : List Int), t = .ref T ∧ SqT K H T (xs.map V.int) ∧ xs.length = n
theorem PTn.tk {K : PySem.W.Frag} {H H' : Hp} {n : Nat} {t : V} (h : PTn K H n t) (s : TupK H H') : PTn K H' n t := by
  obtain ⟨T, xs, e, a, b⟩ := h
  exact ⟨T, xs, e, s.sq a, b⟩
def spVs (K : PySem.W.Frag) : Sp := fun vs H Q _ => ∃ (i : Addr) (cs : List Int) (gs : List Gp), vs = [.ref i] ∧ Dp K H (.ref i) (dInst cs gs) ∧ InsOk cs gs ∧ gs.length ≤ 3 ∧ (∀ g ∈ gs, g.2 ≤ 3) ∧
  ∀ (H' : Hp) (p : Addr) (ts : List V), Same H H' → H p = none → H' p = some (.lst ts) → ts.length ≤ 64 → (∀ t ∈ ts, ∃ (T : Addr) (xs : List Int), t = .ref T ∧ SqT K H' T (xs.map V.int) ∧ IsVec cs gs xs) → Q (.ref p) H'
set_option maxHeartbeats 8000000 in
theorem ok_Vs {f fIv : Addr} {fd fdIv : FuncData} (F : Fun K "_law_vectors" "_law_vectors" sVs f fd)
    (FIv : Fun K "_law_is_vector" "_law_is_vector" sIv fIv fdIv) (bIv : Binds K fdIv ["_law_instance", "_law_value_here"] []) (gIv : mg "_law_is_vector" = some (.ref fIv)) (GIv : FnOk P w K mg base CX0 2 fIv fdIv ["_law_instance", "_law_value_here"] (spIv K))
    (m_range : mg "range" = none) :
    FnOk P w K mg base CX0 3 f fd ["_law_instance"] (spVs K) := by
  refine F.ok scVs (fun vs H Q E h => ?_) (fun cdv A outer s H vs Q E hr h => ?_)
  · obtain ⟨i, cs, gs, rfl, _⟩ := h; rfl
  · obtain ⟨i, cs, gs, rfl, hI, ok, h4, h3, q⟩ := h
    refine ⟨_, pss_cons (ps_set (i := 1) scVs.nd rfl (.inl rfl) (pe_lst (pa_cons (pe_tup (pa_nil)) pa_nil)))
      (pss_cons (ps_for PassesOwn.never rfl (pi_tup (pe_ix ix_tup (pv 0) (pe_int) (fun _ _ => rfl))) (pg_tup rfl (pgs_cons (pg_name (i := 2) scVs.nd rfl (.inl rfl)) (pgs_cons (pg_name (i := 3) scVs.nd rfl (.inl rfl)) pgs_nil)))
        (pss_cons (ps_set (i := 4) scVs.nd rfl (.inl rfl) (pe_lst (pa_nil)))
        (pss_cons (ps_for PassesOwn.never rfl (pi_list (pv 1)) (pg_name (i := 5) scVs.nd rfl (.inr rfl))
          (pss_one (ps_expr (pe_bm PySem.F.plainAttrs_list PySem.F.slot_list_extend PySem.F.type_list_extend mt_extend (pv 4) (pa_cons (pe_lc (own := [("_law_number", 6)]) (g := gName 6) (tt := tYes) (te := tOp (rCatA K) (tVar 5) (tTup (tCons (tVar 6) tNil))) rfl scVs.nd (pi_range1 (by rfl) m_range (pa_cons (pe_op op_add (pv 3) (pe_int)) pa_nil)) (blkOk_by (N := ["_law_instance", "_law_found", "_law_order", "_law_count", "_law_longer", "_law_row", "_law_number"]) (sc := defScope sVs) (by decide +kernel)) (fun _ _ _ _ _ => pg_name (i := 6) scVs.nd rfl (.inl rfl)) (fun _ _ _ _ _ => pts_nil) (fun _ _ _ _ _ => pe_op op_catA (pv 5) (pe_tup (pa_cons (pv 6) pa_nil)))) pa_nil)))))
        (pss_one (ps_set (i := 1) scVs.nd rfl (.inl rfl) (pv 4))))))
      (pss_one (ps_ret (pe_lc (own := [("_law_row", 5)]) (g := gName 5) (tt := tB (tCall (spIv K) [] E0 (tCons (tVar 0) (tCons (tVar 5) tNil)))) (te := tVar 5) rfl scVs.nd (pi_list (pv 1)) (blkOk_by (N := ["_law_instance", "_law_found", "_law_order", "_law_count", "_law_longer", "_law_row", "_law_number"]) (sc := defScope sVs) (by decide +kernel)) (fun _ _ _ _ _ => pg_name (i := 5) scVs.nd rfl (.inl rfl)) (fun _ _ _ _ _ => pts_one (pt_val (pe_call GIv (hr.mono (by omega)) (by rfl) gIv FIv.kp bIv .nil pass0 (pa_cons (pv 0) (pa_cons (pv 5) pa_nil))))) (fun _ _ _ _ _ => pv 5))))), ?_⟩
    obtain ⟨_, ca, ga, ys, e0, hi, hc, hgt, hgs⟩ := inst_open hI
    cases e0
    have lx := DpAll.len hgs
    rw [List.length_map] at lx
    refine ⟨Nat.zero_le _, fun T0 nT0 => ⟨(show (1 : Nat) ≤ sizeLine by decide), fun Fo nFo => ?_⟩⟩
    have sF := (sameNew (o := .tup []) nT0).trans (sameNew (o := .lst [.ref T0]) nFo)
    have eFo : (upd (upd H T0 (.tup [])) Fo (.lst [.ref T0])) Fo = some (.lst [.ref T0]) := upd_same
    have hT0 : SqT K (upd (upd H T0 (.tup [])) Fo (.lst [.ref T0])) T0 ([].map V.int) := SqT.of (upNew nFo upd_same)
    generalize upd (upd H T0 (.tup [])) Fo (.lst [.ref T0]) = H0 at sF eFo hT0
    refine ⟨.ref i, rfl, i, _, 1, .ref ga, rfl, rfl, sqS sF hi, atI_nat (j := 1) rfl, ga, rfl, ⟨_, sqS sF hgt⟩, for_it (walk_tup (K := K) (a := ga) (xs := ys))
      (fun j σ H3 => ∃ (Fj : Addr) (y2 y3 y4 y5 : Option V) (vs : List V), σ = [some (.ref i), some (.ref Fj), y2, y3, y4, y5, none] ∧ Same H0 H3 ∧ H3 Fj = some (.lst vs) ∧ (∀ v ∈ vs, PTn K H3 j v) ∧ vs.length ≤ 4 ^ j)
      ⟨Fo, none, none, none, none, [.ref T0], rfl, Same.refl _, eFo, fun v hv => by
        have e : v = .ref T0 := by simpa using hv
        exact ⟨T0, [], e, hT0, rfl⟩, by simp⟩ (fun j σ H3 _ h => by obtain ⟨_, _, _, _, _, _, _, s3, _⟩ := h; exact sqS (sF.trans s3) hgt) ?_ ?_⟩
    · rintro j v σ H4 H3 hlt ⟨Fj, y2, y3, y4, y5, vs, rfl, s3, e3, hv3, l3⟩ ⟨rfl, ey⟩
      have hj : j < gs.length := by omega
      have hg : gs[j]? = some gs[j] := List.getElem?_eq_getElem hj
      obtain ⟨gA, pA, hx, hG, hP⟩ := grp_at hgs hg
      have ey : ys[j]? = some v := ey
      rw [hx] at ey
      cases ey
      have hgc := h3 gs[j] (List.getElem_mem hj)
      have hgc1 := (ok.gp gs[j] (List.getElem_mem hj)).2.2.1
      generalize gs[j] = g at hG hgc hgc1
      have l3' : vs.length ≤ 16 := Nat.le_trans l3 (Nat.le_trans (Nat.pow_le_pow_right (by decide) (show j ≤ 2 by omega)) (by decide))
      refine ⟨gA, _, rfl, sqS (sF.trans s3) hG, rfl, _, _, rfl, _, _, rfl, rfl, ?_⟩
      refine ⟨Nat.zero_le _, fun Lo nLo => ?_⟩
      refine ⟨.ref Fj, rfl, Fj, rfl, ⟨_, SqL.of (upNew nLo e3)⟩, for_it (walk_list (K := K) (a := Fj) (xs := vs))
        (fun k σ H5 => ∃ (y5 : Option V) (ws : List V), σ = [some (.ref i), some (.ref Fj), some (.ref pA), some (.int g.2), some (.ref Lo), y5, none] ∧ Same H3 H5 ∧ H5 Lo = some (.lst ws) ∧ (∀ w ∈ ws, PTn K H5 (j + 1) w) ∧ ws.length ≤ 4 * k)
        ⟨_, [], rfl, sameNew nLo, upd_same, by simp, by simp⟩ (fun k σ H5 _ h => by obtain ⟨_, _, _, s5, _⟩ := h; exact SqL.of (s5 _ _ e3)) ?_ ?_⟩
      · rintro k v σ H5 H6 hk ⟨y5, ws, rfl, s5, e5, hw5, l5⟩ ⟨rfl, hv⟩
        have hv : vs[k]? = some v := hv
        obtain ⟨Tn, ns, rfl, hTn, hnl⟩ := (hv3 v (List.mem_of_getElem? hv)).tk (TupK.of s5)
        obtain ⟨m, hm⟩ : ∃ m : Nat, g.2 + 1 = (m : Int) := ⟨(g.2 + 1).toNat, by omega⟩
        refine ⟨.ref Lo, rfl, .inl ⟨rfl, _, SqL.of e5⟩, .int g.2, rfl, _, _, rfl, rfl, m, by show [V.int (g.2 + 1)] = _; rw [hm], by omega, by omega, fun D2 nD2 => lc_it (walk_range (lo := 0) (n := ((m : Int)).toNat))
          (fun n H7 => Same H6 H7 ∧ ∃ zs : List V, H7 D2 = some (.lst zs) ∧ zs.length = n ∧ ∀ z ∈ zs, PTn K H7 (j + 1) z) ⟨sameNew nD2, [], upd_same, rfl, by simp⟩ (fun _ _ _ _ => trivial) ?_ ?_⟩
        · rintro n v H7 H8 hn ⟨s7, zs, e7, l7, hz7⟩ ⟨rfl, rfl⟩
          refine ⟨rfl, .ref Tn, rfl, .int (0 + (n : Nat)), rfl, (show (1 : Nat) ≤ sizeLine by decide), fun N nN => cat_eq (sqS (s7.trans (sameNew nN)) hTn) (SqT.of upd_same) ?_ (fun H9 p s9 hp => ?_)⟩
          · rw [List.length_map]; exact small6 (by simp; omega)
          · have s79 := (sameNew (o := .tup [V.int (0 + (n : Nat))]) nN).trans s9
            have e9 := s79 _ _ e7
            refine ⟨zs, e9, small6 (by omega), samePut (s7.trans s79) nD2, zs ++ [.ref p], upd_same, by simp [l7], fun z hz => ?_⟩
            have tkp := TupK.put (o := .lst (zs ++ [.ref p])) e9
            rcases List.mem_append.mp hz with h | h
            · exact (hz7 z h).tk ((TupK.of s79).trans tkp)
            · have e : z = .ref p := by simpa using h
              exact ⟨p, ns ++ [(0 : Int) + ((n : Nat) : Int)], e, tkp.sq (by rw [List.map_append]; exact hp), by simp [hnl]⟩
        rintro H7 ⟨s7, zs, e7, l7, hz7⟩
        have eL7 := s7 _ _ e5
        have tkp : TupK H7 (upd H7 Lo (.lst (ws ++ zs))) := TupK.put eL7
        refine ⟨Lo, D2, ws, zs, rfl, rfl, eL7, e7, by exact Nat.le_of_lt (small6 (by omega)), _, ws ++ zs, rfl, samePut (s5.trans s7) nLo, upd_same, fun w hw => ?_, by rw [List.length_append]; omega⟩
        rcases List.mem_append.mp hw with h | h
        · exact (hw5 w h).tk ((TupK.of s7).trans tkp)
        · exact (hz7 w h).tk tkp
      · rintro σ H5 ⟨y5, ws, rfl, s5, e5, hw5, l5⟩
        exact ⟨_, rfl, Lo, _, _, _, _, ws, rfl, s3.trans s5, e5, hw5, by rw [Nat.pow_succ]; omega⟩
    · rintro σ H3 ⟨Fj, y2, y3, y4, y5, vs, rfl, s3, e3, hv3, l3⟩
      rw [lx] at hv3 l3
      have l64 : vs.length ≤ 64 := Nat.le_trans l3 (Nat.le_trans (Nat.pow_le_pow_right (by decide) h4) (by decide))
      have s03 := sF.trans s3
      refine ⟨.ref Fj, rfl, Fj, rfl, ⟨_, SqL.of e3⟩, fun D nD => lc_it (walk_list (K := K) (a := Fj) (xs := vs))
        (fun m Hm => Same H3 Hm ∧ ∃ zs : List V, Hm D = some (.lst zs) ∧ zs.length ≤ m ∧ ∀ t ∈ zs, ∃ (T : Addr) (xs : List Int), t = .ref T ∧ SqT K Hm T (xs.map V.int) ∧ IsVec cs gs xs) ⟨sameNew nD, [], upd_same, Nat.le_refl _, by simp⟩ (fun m Hm _ h => SqL.of (h.1 _ _ e3)) ?_ ?_⟩
      · rintro m v H4 H5 hm ⟨s4, zs, e4, l4, hz4⟩ ⟨rfl, hv⟩
        have hv : vs[m]? = some v := hv
        obtain ⟨T, xs, rfl, hT, hxl⟩ := (hv3 v (List.mem_of_getElem? hv)).tk (TupK.of s4)
        refine ⟨rfl, .ref i, rfl, .ref T, rfl, i, T, cs, xs, gs, rfl, (TupK.of (s03.trans s4)).dp _ _ (to_dInst _ _) hI, ok, hT, hxl, fun H6 b s6 hb => ⟨_, rfl, ?_⟩⟩
        have e6 := s6 _ _ e4
        refine ite2 (fun h1 => ?_) (fun h1 => ?_)
        · have tkp := TupK.put (o := .lst (zs ++ [.ref T])) e6
          refine ⟨.ref T, rfl, zs, e6, small6 (by omega), samePut (s4.trans s6) nD, zs ++ [.ref T], upd_same, by simp; omega, fun t ht => ?_⟩
          rcases List.mem_append.mp ht with h | h
          · obtain ⟨T', xs', e, a, b'⟩ := hz4 t h
            exact ⟨T', xs', e, tkp.sq (sqS s6 a), b'⟩
          · have e : t = .ref T := by simpa using h
            exact ⟨T, xs, e, tkp.sq (sqS s6 hT), hb h1⟩
        · exact ⟨s4.trans s6, zs, e6, by omega, fun t ht => by
            obtain ⟨T', xs', e, a, b'⟩ := hz4 t ht
            exact ⟨T', xs', e, sqS s6 a, b'⟩⟩
      · rintro H4 ⟨s4, zs, e4, l4, hz4⟩
        exact q H4 D zs (s03.trans s4) (freeZ s03 nD) e4 (by omega) hz4
end
end Pv

namespace Pv
open PySem PySem.Spec PyProof.Rows L2
abbrev sWe : Stmt := topS 44
theorem scWe : FnScope ["_law_deck_here", "_law_many", "_law_most", "_law_base", "_law_found", "_law_group", "_law_some"] ["_law_deck_here", "_law_many", "_law_most"] (defScope sWe) := ⟨rfl, rfl, rfl, by decide +kernel, rfl, by decide +kernel, by decide +kernel⟩
abbrev sPs : Stmt := topS 45
theorem scPs : FnScope ["_law_deck_here", "_law_instance", "_law_weights_here", "_law_facts_here", "_law_found", "_law_side", "_law_row", "_law_post", "_law_near", "_law_some", "_law_price"] ["_law_deck_here", "_law_instance", "_law_weights_here"] (defScope sPs) := ⟨rfl, rfl, rfl, by decide +kernel, rfl, by decide +kernel, by decide +kernel⟩
section
variable {P : Program} {w : World} {K : PySem.W.Frag} {mg : Str → Option Value} {base : Heap}
def spWe (K : PySem.W.Frag) : Sp := fun vs H Q _ => ∃ (st c r : Addr) (t n : Nat) (m : Int), vs = [.ref st, .int n, .int m] ∧ DU H st c r t ∧ t + 200 < 900000 ∧ n ≤ 10 ∧ 1 ≤ m ∧ m ≤ 10 ^ 9 ∧
  ∀ (H' : Hp) (p : Addr) (t' : Nat) (ws : List Int), DU H' st c r t' → t' ≤ t + 100 → Ext st r H H' → SqT K H' p (ws.map V.int) → ws.length = n → (∀ w ∈ ws, w.natAbs ≤ 10 ^ 9) → Q (.ref p) H'
set_option maxHeartbeats 8000000 in
theorem ok_We {f fDr fPk : Addr} {fd fdDr fdPk : FuncData} (F : Fun K "_law_weights" "_law_weights" sWe f fd)
    (FDr : Fun K "_law_draw" "_law_draw" sDr fDr fdDr) (bDr : Binds K fdDr ["_law_deck_here", "_law_many"] []) (gDr : mg "_law_draw" = some (.ref fDr)) (GDr : FnOk P w K mg base CX0 1 fDr fdDr ["_law_deck_here", "_law_many"] spDraw)
    (FPk : Fun K "_law_pick" "_law_pick" sPk fPk fdPk) (bPk : Binds K fdPk ["_law_deck_here", "_law_items"] []) (gPk : mg "_law_pick" = some (.ref fPk)) (GPk : FnOk P w K mg base CX0 2 fPk fdPk ["_law_deck_here", "_law_items"] (spPk K))
    (m_range : mg "range" = none) (m_min : mg "min" = none) (m_max : mg "max" = none) (m_tuple : mg "tuple" = none) :
    FnOk P w K mg base CX0 3 f fd ["_law_deck_here", "_law_many", "_law_most"] (spWe K) := by
  refine F.ok scWe (fun vs H Q E h => ?_) (fun cdv A outer s H vs Q E hr h => ?_)
  · obtain ⟨st, c, r, t, n, m, rfl, _⟩ := h; rfl
  · obtain ⟨st, c, r, t, n, m, rfl, D0, ht, hn, hm1, hm2, q⟩ := h
    refine ⟨_, pss_cons (ps_set (i := 3) scWe.nd rfl (.inl rfl) (pe_op op_sub (pe_call GDr (hr.mono (by omega)) (by rfl) gDr FDr.kp bDr .nil pass0 (pa_cons (pv 0) (pa_cons (pe_op op_add (pe_op op_mul (pe_int) (pv 2)) (pe_int)) pa_nil))) (pv 2)))
      (pss_cons (ps_set (i := 4) scWe.nd rfl (.inl rfl) (pe_lst (pa_nil)))
      (pss_cons (ps_for PassesOwn.never rfl (pi_range1 (by rfl) m_range (pa_cons (pv 1) pa_nil)) (pg_name (i := 5) scWe.nd rfl (.inl rfl))
        (pss_cons (ps_set (i := 6) scWe.nd rfl (.inl rfl) (pe_lst (pa_cons (pv 3) (pa_cons (pe_op op_sub (pe_op op_add (pv 3) (pe_call GDr (hr.mono (by omega)) (by rfl) gDr FDr.kp bDr .nil pass0 (pa_cons (pv 0) (pa_cons (pe_int) pa_nil)))) (pe_int)) (pa_cons (pe_op op_sub (pe_call GDr (hr.mono (by omega)) (by rfl) gDr FDr.kp bDr .nil pass0 (pa_cons (pv 0) (pa_cons (pe_op op_add (pe_op op_mul (pe_int) (pv 2)) (pe_int)) pa_nil))) (pv 2)) (pa_cons (pe_op op_sub (pe_call GDr (hr.mono (by omega)) (by rfl) gDr FDr.kp bDr .nil pass0 (pa_cons (pv 0) (pa_cons (pe_int) pa_nil))) (pe_int)) pa_nil))))))
        (pss_one (ps_expr (pe_bm PySem.F.plainAttrs_list PySem.F.slot_list_append PySem.F.type_list_append mt_append (pv 4) (pa_cons (pe_callB (call_max2 rfl) (by rfl) m_max (by decide +kernel) (pa_cons (pe_op op_sub (pe_int) (pv 2)) (pa_cons (pe_callB (call_min2 rfl) (by rfl) m_min (by decide +kernel) (pa_cons (pv 2) (pa_cons (pe_call GPk (hr.mono (by omega)) (by rfl) gPk FPk.kp bPk .nil pass0 (pa_cons (pv 0) (pa_cons (pv 6) pa_nil))) pa_nil))) pa_nil))) pa_nil))))))
      (pss_one (ps_ret (pe_callTy call_tupQ (by rfl) m_tuple (by decide +kernel) (pa_cons (pv 4) pa_nil)))))), ?_⟩
    refine ⟨.ref st, rfl, .int m, rfl, _, _, rfl, rfl, .inl ⟨by omega, by omega⟩, _, _, rfl, rfl, st, c, r, t, 2 * m + 1, rfl, D0, by omega, by omega, by omega, fun H1 d d0 d1 D1 X1 => ?_⟩
    refine ⟨.int m, rfl, _, _, rfl, rfl, ?_⟩
    refine ⟨Nat.zero_le _, fun Fd nFd => ?_⟩
    have oF := D1.off nFd
    have D2 := D1.new nFd (o := .lst [])
    have fF : H Fd = none := D1.nil X1 nFd
    have eF : (upd H1 Fd (.lst [])) Fd = some (.lst []) := upd_same
    have X2 : Ext st r H (upd H1 Fd (.lst [])) := X1.trans (Ext.of (sameNew nFd))
    generalize upd H1 Fd (.lst []) = H2 at D2 eF X2 ⊢
    refine ⟨.int (n : Nat), rfl, _, rfl, by omega, by omega, for_it (walk_range (lo := 0) (n := ((n : Nat) : Int).toNat))
      (fun j σ Hj => ∃ (y5 y6 : Option V) (tj : Nat) (ws : List Int), σ = [some (.ref st), some (.int (n : Nat)), some (.int m), some (.int (d - m)), some (.ref Fd), y5, y6] ∧ DU Hj st c r tj ∧ tj ≤ t + 1 + 4 * j ∧ Ext st r H Hj ∧ Hj Fd = some (.lst (ws.map V.int)) ∧ ws.length = j ∧ ∀ w ∈ ws, w.natAbs ≤ 10 ^ 9)
      ⟨none, none, t + 1, [], rfl, D2, by omega, X2, eF, rfl, by simp⟩ (fun _ _ _ _ _ => trivial) ?_ ?_⟩
    · rintro j v σ Hx Hj hlt ⟨y5, y6, tj, ws, rfl, Dj, htj, xj, eFj, lws, bws⟩ ⟨rfl, rfl⟩
      have hj : j < 10 := by omega
      refine ⟨.int (d - m), rfl, .int (d - m), rfl, .ref st, rfl, st, c, r, tj, 3, rfl, Dj, by omega, by decide, by decide, fun Ha a a0 a1 Da Xa => ⟨_, _, rfl, rfl, _, _, rfl, rfl, ?_⟩⟩
      refine ⟨.ref st, rfl, .int m, rfl, _, _, rfl, rfl, .inl ⟨by omega, by omega⟩, _, _, rfl, rfl, st, c, r, tj + 1, 2 * m + 1, rfl, Da, by omega, by omega, by omega, fun Hb b b0 b1 Db Xb => ⟨.int m, rfl, _, _, rfl, rfl, ?_⟩⟩
      refine ⟨.ref st, rfl, st, c, r, tj + 1 + 1, 5, rfl, Db, by omega, by decide, by decide, fun Hc e e0 e1 Dc Xc => ⟨_, _, rfl, rfl, (show (4 : Nat) ≤ sizeLine by decide), fun L nL => ?_⟩⟩
      have xac := (Xa.trans Xb).trans Xc
      have oL := Dc.off nL
      have Dd := Dc.new nL (o := .lst [V.int (d - m), V.int (d - m + a - 1), V.int (b - m), V.int (e - 2)])
      have xad := xac.trans (Ext.of (sameNew (o := .lst [V.int (d - m), V.int (d - m + a - 1), V.int (b - m), V.int (e - 2)]) nL))
      have eFd := xad _ _ eFj oF.1 oF.2.2
      refine ⟨.ref Fd, rfl, .inl ⟨rfl, _, SqL.of eFd⟩, ?_⟩
      refine ⟨.int m, rfl, _, _, rfl, rfl, .int m, rfl, .ref st, rfl, .ref L, rfl, st, c, r, L, tj + 1 + 1 + 1, _, rfl, Dd, by omega, upd_same, by simp, by simp, oL.1, oL.2.2, fun He x hx De Xe => ?_⟩
      obtain ⟨z, rfl⟩ : ∃ z : Int, x = .int z := by
        simp only [List.mem_cons, List.not_mem_nil, or_false] at hx
        rcases hx with h | h | h | h <;> exact ⟨_, h⟩
      refine ⟨_, _, rfl, _, _, rfl, ?_⟩
      obtain ⟨y, hy, by1⟩ : ∃ y : Int, (if (if z < m then z else m) > 0 - m then (if z < m then z else m) else 0 - m) = y ∧ y.natAbs ≤ 10 ^ 9 := ⟨_, rfl, by (repeat' split) <;> omega⟩
      rw [hy]
      have eFe := Xe _ _ eFd oF.1 oF.2.2
      refine ⟨Fd, ws.map V.int, _, rfl, rfl, eFe, Nat.lt_of_le_of_lt (show (ws.map V.int).length ≤ 100 by rw [List.length_map]; omega) (small (by decide)), ?_⟩
      refine ⟨_, _, tj + 1 + 1 + 1 + 1, ws ++ [y], rfl, De.put oF, by omega, ExtPut (xj.trans (xad.trans Xe)) fF, by rw [upd_same, List.map_append]; rfl, by simp [lws], fun w hw => ?_⟩
      rcases List.mem_append.mp hw with h | h
      · exact bws w h
      · have e : w = y := by simpa using h
        rw [e]; exact by1
    · rintro σ Hj ⟨y5, y6, tj, ws, rfl, Dj, htj, xj, eFj, lws, bws⟩
      refine ⟨.ref Fd, rfl, Fd, _, rfl, .inl ⟨SqL.of eFj, fun T nT => ?_⟩⟩
      have sT := sameNew (o := .tup (ws.map V.int)) nT
      exact q _ T tj ws (Dj.same sT) (by omega) (xj.trans (Ext.of sT)) (SqT.of upd_same) (by omega) bws
def exK (cs : List Int) (gs : List Gp) (k : Nat) : List Int := if k = 0 then rExc cs gs else rFre cs gs
def loK (k : Nat) : Int := if k = 0 then -1000000000000 else 0
def rowK (cs : List Int) (gs : List Gp) (k : Nat) (us : List Int) : Prop := ∀ (j : Nat) (u : Int), us[j]? = some u → loK k ≤ u ∧ u ≤ 1000000000000 ∧ ((exK cs gs k).getD j 0 = 0 → u = 0)
theorem exK_len (cs : List Int) (gs : List Gp) (k : Nat) : (exK cs gs k).length = cs.length := by
  unfold exK; split
  · exact rExc_len ..
  · exact rFre_len ..
theorem rowK_side {cs : List Int} {gs : List Gp} {k : Nat} {us : List Int} (hl : us.length = cs.length) (h : rowK cs gs k us) : sideB (loK k) (exK cs gs k) (dI us) = true := by
  refine side_of (by rw [exK_len]; exact hl) (fun u hu => ?_) (fun z hz h0 => ?_)
  · obtain ⟨j, hj, e⟩ := List.mem_iff_getElem.mp hu
    have := h j u (by rw [List.getElem?_eq_getElem hj, e])
    exact ⟨this.1, this.2.1⟩
  · obtain ⟨j, hj, e⟩ := List.mem_iff_getElem.mp hz
    have h9 := List.getElem?_eq_getElem hj
    rw [e, List.getElem?_zip_eq_some] at h9
    refine (h j z.2 h9.2).2.2 ?_
    rw [List.getD_eq_getElem?_getD, h9.1]
    exact h0
theorem rowK_snoc {cs : List Int} {gs : List Gp} {k : Nat} {us : List Int} {u : Int} (h : rowK cs gs k us) (h1 : loK k ≤ u) (h2 : u ≤ 1000000000000) (h3 : (exK cs gs k).getD us.length 0 = 0 → u = 0) : rowK cs gs k (us ++ [u]) := by
  intro j x hx
  by_cases hj : j < us.length
  · rw [List.getElem?_append_left hj] at hx
    exact h j x hx
  · have e : j = us.length := by
      have := (List.getElem?_eq_some_iff.mp hx).1
      simp at this; omega
    subst e
    rw [List.getElem?_append_right (Nat.le_refl _), Nat.sub_self] at hx
    cases hx
    exact ⟨h1, h2, h3⟩
def spPs (K : PySem.W.Frag) : Sp := fun vs H Q _ => ∃ (st c r i wA : Addr) (t : Nat) (cs ws : List Int) (gs : List Gp), vs = [.ref st, .ref i, .ref wA] ∧ DU H st c r t ∧ t + 200 < 900000 ∧ Dp K H (.ref i) (dInst cs gs) ∧ InsOk cs gs ∧ SqT K H wA (ws.map V.int) ∧ ws.length = gs.length ∧ (∀ w ∈ ws, w.natAbs ≤ 10 ^ 9) ∧
  ∀ (H' : Hp) (b pa pb : Addr) (t' : Nat) (us vs' : List Int), DU H' st c r t' → t' ≤ t + 100 → Ext st r H H' → SqT K H' b [.ref pa, .ref pb] → SqT K H' pa (us.map V.int) → SqT K H' pb (vs'.map V.int) → us.length = cs.length → vs'.length = cs.length → prD cs gs (.tuple [dI us, dI vs']) = true → Q (.ref b) H'
set_option maxHeartbeats 16000000 in
theorem ok_Ps {f fFa fPk fDr : Addr} {fd fdFa fdPk fdDr : FuncData} (F : Fun K "_law_prices" "_law_prices" sPs f fd)
    (FFa : Fun K "_law_facts" "_law_facts" sFa fFa fdFa) (bFa : Binds K fdFa ["_law_instance"] []) (gFa : mg "_law_facts" = some (.ref fFa)) (GFa : FnOk P w K mg base CX0 1 fFa fdFa ["_law_instance"] (spFa K))
    (FPk : Fun K "_law_pick" "_law_pick" sPk fPk fdPk) (bPk : Binds K fdPk ["_law_deck_here", "_law_items"] []) (gPk : mg "_law_pick" = some (.ref fPk)) (GPk : FnOk P w K mg base CX0 2 fPk fdPk ["_law_deck_here", "_law_items"] (spPk K))
    (FDr : Fun K "_law_draw" "_law_draw" sDr fDr fdDr) (bDr : Binds K fdDr ["_law_deck_here", "_law_many"] []) (gDr : mg "_law_draw" = some (.ref fDr)) (GDr : FnOk P w K mg base CX0 1 fDr fdDr ["_law_deck_here", "_law_many"] spDraw)
    (m_range : mg "range" = none) (m_len : mg "len" = none) (m_list : mg "list" = none) (m_abs : mg "abs" = none) (m_int : mg "int" = none) (m_tuple : mg "tuple" = none) :
    FnOk P w K mg base CX0 3 f fd ["_law_deck_here", "_law_instance", "_law_weights_here"] (spPs K) := by
  refine F.ok scPs (fun vs H Q E h => ?_) (fun cdv A outer s H vs Q E hr h => ?_)
  · obtain ⟨st, c, r, i, wA, t, cs, ws, gs, rfl, _⟩ := h; rfl
  · obtain ⟨st, c, r, i, wA, t, cs, ws, gs, rfl, D0, ht, hI, ok, hW, lw, bw, q⟩ := h
    refine ⟨_, pss_cons (ps_set (i := 3) scPs.nd rfl (.inl rfl) (pe_call GFa (hr.mono (by omega)) (by rfl) gFa FFa.kp bFa .nil pass0 (pa_cons (pv 1) pa_nil)))
      (pss_cons (ps_set (i := 4) scPs.nd rfl (.inl rfl) (pe_lst (pa_nil)))
      (pss_cons (ps_for PassesOwn.never rfl (pi_range1 (by rfl) m_range (pa_cons (pe_int) pa_nil)) (pg_name (i := 5) scPs.nd rfl (.inl rfl))
        (pss_cons (ps_set (i := 6) scPs.nd rfl (.inl rfl) (pe_lst (pa_nil)))
        (pss_cons (ps_for PassesOwn.never rfl (pi_range1 (by rfl) m_range (pa_cons (pe_callB call_lenQ (by rfl) m_len PySem.boot_len (pa_cons (pe_ix ix_tup (pv 1) (pe_int) (fun _ _ => rfl)) pa_nil)) pa_nil)) (pg_name (i := 7) scPs.nd rfl (.inl rfl))
          (pss_cons (ps_set (i := 8) scPs.nd rfl (.inl rfl) (pe_op op_sub (pe_op op_add (pe_call GPk (hr.mono (by omega)) (by rfl) gPk FPk.kp bPk .nil pass0 (pa_cons (pv 0) (pa_cons (pe_callTy call_list_of (by rfl) m_list (by decide +kernel) (pa_cons (pv 2) pa_nil)) pa_nil))) (pe_call GDr (hr.mono (by omega)) (by rfl) gDr FDr.kp bDr .nil pass0 (pa_cons (pv 0) (pa_cons (pe_int) pa_nil)))) (pe_int)))
          (pss_cons (ps_set (i := 9) scPs.nd rfl (.inl rfl) (pe_lst (pa_cons (pe_int) (pa_cons (pv 8) (pa_cons (pe_op op_sub (pe_call GDr (hr.mono (by omega)) (by rfl) gDr FDr.kp bDr .nil pass0 (pa_cons (pv 0) (pa_cons (pe_op op_add (pe_op op_mul (pe_int) (pe_op op_pow (pe_int) (pe_int))) (pe_int)) pa_nil))) (pe_op op_pow (pe_int) (pe_int))) pa_nil)))))
          (pss_cons (ps_set (i := 10) scPs.nd rfl (.inl rfl) (pe_call GPk (hr.mono (by omega)) (by rfl) gPk FPk.kp bPk .nil pass0 (pa_cons (pv 0) (pa_cons (pv 9) pa_nil))))
          (pss_cons (ps_if (pt_cmpR op_eq (pv 5) (pe_int) (nomark _))
            (pss_one (ps_set (i := 10) scPs.nd rfl (.inl rfl) (pe_callB call_abs (by rfl) m_abs (by decide +kernel) (pa_cons (pv 10) pa_nil)))) pss_nil)
          (pss_one (ps_expr (pe_bm PySem.F.plainAttrs_list PySem.F.slot_list_append PySem.F.type_list_append mt_append (pv 6) (pa_cons (pe_op op_mul (pv 10) (pe_callTy call_int1 (by rfl) m_int (by decide +kernel) (pa_cons (pe_cmpR op_gt (pe_ix ix_list (pe_ix ix_list (pv 3) (pe_op op_add (pe_int) (pv 5)) (fun _ _ => rfl)) (pv 7) (fun _ _ => rfl)) (pe_int) (nomark _)) pa_nil))) pa_nil)))))))))
        (pss_one (ps_expr (pe_bm PySem.F.plainAttrs_list PySem.F.slot_list_append PySem.F.type_list_append mt_append (pv 4) (pa_cons (pe_callTy call_tupQ (by rfl) m_tuple (by decide +kernel) (pa_cons (pv 6) pa_nil)) pa_nil)))))))
      (pss_one (ps_ret (pe_callTy call_tupQ (by rfl) m_tuple (by decide +kernel) (pa_cons (pv 4) pa_nil)))))), ?_⟩
    have h6 := ok.c6
    have h10 := ok.g10
    have hg1 := ok.g1
    refine ⟨.ref i, rfl, i, cs, gs, rfl, hI, ok, fun H1 p d e f cr w ca' rs s1 fp fd0 Fc => ?_⟩
    obtain ⟨_, ca, ga, ys, e0, hi, hc, hgt, hgs⟩ := inst_open hI
    cases e0
    have op := D0.off fp
    have oe := D0.off fd0.2.1
    have of' := D0.off fd0.2.2
    have D1 := D0.same s1
    refine ⟨Nat.zero_le _, fun Fd nFd => ?_⟩
    have oF := D1.off nFd
    have fF : H Fd = none := freeZ s1 nFd
    have s2 := s1.trans (sameNew (o := .lst []) nFd)
    have eF : (upd H1 Fd (.lst [])) Fd = some (.lst []) := upd_same
    have F2 := Fc.same (sameNew (o := .lst []) nFd)
    generalize upd H1 Fd (.lst []) = H2 at s2 eF F2 ⊢
    refine ⟨_, rfl, by decide, by decide, for_it (walk_range (lo := 0) (n := ((2 : Int)).toNat))
      (fun j σ Hj => ∃ (y5 y6 y7 y8 y9 y10 : Option V) (tj : Nat) (rows : List V) (uss : List (List Int)), σ = [some (.ref st), some (.ref i), some (.ref wA), some (.ref p), some (.ref Fd), y5, y6, y7, y8, y9, y10] ∧ DU Hj st c r tj ∧ tj ≤ t + 24 * j ∧ Ext st r H Hj ∧ (Hj p = some (.lst [.ref d, .ref e, .ref f, .ref cr, .ref w, .ref ca']) ∧ Hj e = some (.lst ((rExc cs gs).map V.int)) ∧ Hj f = some (.lst ((rFre cs gs).map V.int))) ∧ Hj Fd = some (.lst rows) ∧ Rl (TuV K Hj) rows uss ∧ uss.length = j ∧ ∀ (k : Nat) (us : List Int), uss[k]? = some us → us.length = cs.length ∧ rowK cs gs k us)
      ⟨none, none, none, none, none, none, t, [], [], rfl, D0.same s2, by omega, Ext.of s2, ⟨F2.eP, F2.eX, F2.eF⟩, eF, .nil, rfl, fun k us h => by simp at h⟩ (fun _ _ _ _ _ => trivial) ?_ ?_⟩
    · rintro j v σ Hx Hj hlt ⟨y5, y6, y7, y8, y9, y10, tj, rows, uss, rfl, Dj, htj, xj, ⟨ePj, eEj, eFj⟩, eRj, hRj, luj, hku⟩ ⟨rfl, rfl⟩
      have hj2 : j < 2 := hlt
      have lrows := hRj.1
      rw [show (fun i : Nat => V.int (0 + (i : Int))) = fun i : Nat => V.int (i : Int) from funext fun i => by rw [Int.zero_add]]
      refine ⟨Nat.zero_le _, fun Rw nRw => ?_⟩
      have oR := Dj.off nRw
      have nRF : Fd ≠ Rw := ne_of_none eRj nRw
      have nRp : p ≠ Rw := ne_of_none ePj nRw
      have nRe : e ≠ Rw := ne_of_none eEj nRw
      have nRf : f ≠ Rw := ne_of_none eFj nRw
      have fR : H Rw = none := Dj.nil xj nRw
      have Da := Dj.new nRw (o := .lst [])
      have xa := xj.trans (Ext.of (sameNew (o := .lst []) nRw))
      have tkj := D0.tup xa
      have eRw : (upd Hj Rw (.lst [])) Rw = some (.lst []) := upd_same
      have ea := sameNew (o := .lst []) nRw
      have hRa : Rl (TuV K (upd Hj Rw (.lst []))) rows uss := hRj.mono fun _ _ h => h.tk (TupK.of ea)
      have eRa := ea _ _ eRj
      have ePa := ea _ _ ePj
      have eEa := ea _ _ eEj
      have eFa := ea _ _ eFj
      generalize upd Hj Rw (.lst []) = Ha at Da xa tkj eRw hRa eRa ePa eEa eFa ⊢
      have side : ∃ (eA : Addr), atI [V.ref d, V.ref e, V.ref f, V.ref cr, V.ref w, V.ref ca'] (1 + (j : Int)) = some (.ref eA) ∧ Ha eA = some (.lst ((exK cs gs j).map V.int)) ∧ eA ≠ st ∧ eA ≠ r ∧ eA ≠ Rw ∧ eA ≠ Fd := by
        obtain z | z : j = 0 ∨ j = 1 := by omega
        · subst z; exact ⟨e, rfl, eEa, oe.1, oe.2.2, nRe, fun z => by rw [z] at eEa; rw [eEa] at eRa; have h0 := HO.lst.inj (Option.some.inj eRa); have h1 := congrArg List.length h0; rw [List.length_map, rExc_len, lrows, luj] at h1; have := ok.c1; omega⟩
        · subst z; exact ⟨f, rfl, eFa, of'.1, of'.2.2, nRf, fun z => by
            have hff := Fc.eF
            rw [z, nFd] at hff
            cases hff⟩
      obtain ⟨eA, hat, eEA, ne1, ne2, ne3, ne4⟩ := side
      refine ⟨.ref i, rfl, i, _, 0, .ref ca, rfl, rfl, tkj.sq hi, atI_nat (j := 0) rfl, ca, _, rfl, .inr (tkj.sq hc), _, rfl, by rw [List.length_map]; omega, by rw [List.length_map]; omega, for_it (walk_range (lo := 0) (n := (((cs.map V.int).length : Nat) : Int).toNat))
        (fun m σ Hm => ∃ (y7 y8 y9 y10 : Option V) (tm : Nat) (us : List Int), σ = [some (.ref st), some (.ref i), some (.ref wA), some (.ref p), some (.ref Fd), some (.int (j : Nat)), some (.ref Rw), y7, y8, y9, y10] ∧ DU Hm st c r tm ∧ tm ≤ tj + 4 * m ∧ Ext st r H Hm ∧ TupK Ha Hm ∧ Hm p = some (.lst [.ref d, .ref e, .ref f, .ref cr, .ref w, .ref ca']) ∧ (Hm e = some (.lst ((rExc cs gs).map V.int)) ∧ Hm f = some (.lst ((rFre cs gs).map V.int))) ∧ Hm eA = some (.lst ((exK cs gs j).map V.int)) ∧ Hm Fd = some (.lst rows) ∧ Hm Rw = some (.lst (us.map V.int)) ∧ us.length = m ∧ rowK cs gs j us)
        ⟨_, _, _, _, tj, [], rfl, Da, by omega, xa, TupK.refl _, ePa, ⟨eEa, eFa⟩, eEA, eRa, eRw, rfl, fun k u h => by simp at h⟩ (fun _ _ _ _ _ => trivial) ?_ ?_⟩
      · rintro m v1 σ Hy Hm hltm ⟨y7, y8, y9, y10, tm, us, rfl, Dm, htm, xm, tkm, ePm, ⟨eEm, eFm⟩, eAm, eRm, eWm, lus, hus⟩ ⟨rfl, rfl⟩
        rw [List.length_map] at hltm
        have hm : m < cs.length := by omega
        rw [show (fun i : Nat => V.int (0 + (i : Int))) = fun i : Nat => V.int (i : Int) from funext fun i => by rw [Int.zero_add]]
        have tk0 := tkj.trans tkm
        -- near
        refine ⟨.ref st, rfl, .ref wA, rfl, wA, _, rfl, .inr (tk0.sq hW), fun Lw nLw => ?_⟩
        have oLw := Dm.off nLw
        have sLw := sameNew (o := .lst (ws.map V.int)) nLw
        refine ⟨st, c, r, Lw, tm, ws.map V.int, rfl, Dm.new nLw, by omega, upd_same, by rw [List.length_map]; omega, by rw [List.length_map]; omega, oLw.1, oLw.2.2, fun Hb x hx Db Xb => ?_⟩
        obtain ⟨w0, hw0, rfl⟩ := List.mem_map.mp hx
        have bw0 := bw w0 hw0
        refine ⟨.ref st, rfl, st, c, r, tm + 1, 3, rfl, Db, by omega, by decide, by decide, fun Hc a a0 a1 Dc Xc => ⟨_, _, rfl, rfl, _, _, rfl, rfl, ?_⟩⟩
        have xmc : Ext st r Hm Hc := ((Ext.of sLw).trans Xb).trans Xc
        -- some
        refine ⟨.int (w0 + a - 1), rfl, .ref st, rfl, ?_⟩
        refine ⟨_, _, rfl, rfl, ⟨by decide, by decide, by decide⟩, _, _, rfl, rfl, .inl ⟨by decide, by decide⟩, _, _, rfl, rfl, st, c, r, tm + 1 + 1, _, rfl, Dc, by omega, by decide, by decide, fun Hd b b0 b1 Dd Xd => ?_⟩
        refine ⟨_, _, rfl, rfl, ⟨by decide, by decide, by decide⟩, _, _, rfl, rfl, (show (3 : Nat) ≤ sizeLine by decide), fun L nL => ?_⟩
        have oL := Dd.off nL
        have sL := sameNew (o := .lst [V.int 0, V.int (w0 + a - 1), V.int (b - (10 : Int) ^ (12 : Int).toNat)]) nL
        refine ⟨.ref st, rfl, .ref L, rfl, st, c, r, L, tm + 1 + 1 + 1, _, rfl, Dd.new nL, by omega, upd_same, by simp, by simp, oL.1, oL.2.2, fun He x2 hx2 De Xe => ?_⟩
        have xme : Ext st r Hm He := ((xmc.trans Xd).trans (Ext.of sL)).trans Xe
        have e12 : (10 : Int) ^ (12 : Int).toNat = 1000000000000 := rfl
        have b1' : b < 2 * 1000000000000 + 1 := b1
        obtain ⟨z, rfl, hz⟩ : ∃ z : Int, x2 = .int z ∧ z.natAbs ≤ 1000000000000 := by
          simp only [List.mem_cons, List.not_mem_nil, or_false] at hx2
          rcases hx2 with h | h | h
          · exact ⟨_, h, by decide⟩
          · exact ⟨_, h, by omega⟩
          · exact ⟨_, h, by rw [e12]; omega⟩
        have ePe := xme _ _ ePm op.1 op.2.2
        have eEe := xme _ _ eEm oe.1 oe.2.2
        have eFe := xme _ _ eFm of'.1 of'.2.2
        have eAe := xme _ _ eAm ne1 ne2
        have eRe := xme _ _ eRm oF.1 oF.2.2
        have eWe := xme _ _ eWm oR.1 oR.2.2
        have tke := tkm.trans (Dm.tup xme)
        have hx0 : ((exK cs gs j).map V.int)[m]? = some (.int ((exK cs gs j).getD m 0)) := atD2 (by rw [exK_len]; exact hm)
        have fin : ∀ z' : Int, loK j ≤ z' → z'.natAbs ≤ 1000000000000 → ∀ (y : Int), y = z' * (if decide (0 < (exK cs gs j).getD m 0) = true then 1 else 0) → loK j ≤ y ∧ y ≤ 1000000000000 ∧ ((exK cs gs j).getD us.length 0 = 0 → y = 0) := by
          intro z' h1 h2 y hy
          have hlo : loK j ≤ 0 := by unfold loK; split <;> omega
          by_cases h0 : 0 < (exK cs gs j).getD m 0
          · rw [if_pos (decide_eq_true h0), Int.mul_one] at hy
            exact ⟨by omega, by omega, fun h => by rw [lus] at h; omega⟩
          · rw [if_neg (by simpa using h0), Int.mul_zero] at hy
            exact ⟨by omega, by omega, fun _ => hy⟩
        have rest : ∀ z' : Int, loK j ≤ z' → z'.natAbs ≤ 1000000000000 → ∃ y : Int, y = z' * (if decide (0 < (exK cs gs j).getD m 0) = true then 1 else 0) ∧ rowK cs gs j (us ++ [y]) := fun z' h1 h2 => by
          obtain ⟨f1, f2, f3⟩ := fin z' h1 h2 _ rfl
          exact ⟨_, rfl, rowK_snoc hus f1 f2 f3⟩
        dsimp only
        refine (id ?_ : tSeq (tIfS _ _ _) _ _ _ _)
        refine seq_with (fun σ Hz => ∃ z' : Int, σ = [some (.ref st), some (.ref i), some (.ref wA), some (.ref p), some (.ref Fd), some (.int (j : Nat)), some (.ref Rw), some (V.int (m : Nat)), some (V.int (w0 + a - 1)), some (V.ref L), some (V.int z')] ∧ Hz = He ∧ loK j ≤ z' ∧ z'.natAbs ≤ 1000000000000) (fun σ Hz h => ?_) (fun step => ?_)
        · obtain ⟨z', rfl, rfl, h1, h2⟩ := h
          obtain ⟨y, hy, hrow⟩ := rest z' h1 h2
          refine ⟨.ref Rw, rfl, .inl ⟨rfl, _, SqL.of eWe⟩, .int z', rfl, .ref p, rfl, .int (j : Nat), rfl, _, _, rfl, rfl, p, _, 1 + (j : Int), .ref eA, rfl, rfl, SqL.of ePe, hat, .int (m : Nat), rfl, eA, _, m, .int ((exK cs gs j).getD m 0), rfl, rfl, SqL.of eAe, atI_nat hx0, _, _, rfl, rfl, .inr ⟨_, rfl, _, _, rfl, rfl, .inr ⟨by split <;> decide, by split <;> decide⟩, ?_⟩⟩
          subst hy
          refine ⟨Rw, us.map V.int, _, rfl, rfl, eWe, Nat.lt_of_le_of_lt (show (us.map V.int).length ≤ 100 by rw [List.length_map]; omega) (small (by decide)), ?_⟩
          exact ⟨_, _, _, _, tm + 1 + 1 + 1 + 1, us ++ [_], rfl, De.put oR, by omega, ExtPut (xm.trans xme) fR, tke.trans (TupK.put eWe), by rw [upd_ne nRp]; exact ePe, ⟨by rw [upd_ne nRe]; exact eEe, by rw [upd_ne nRf]; exact eFe⟩, by rw [upd_ne ne3]; exact eAe, by rw [upd_ne nRF]; exact eRe, by rw [upd_same, List.map_append]; rfl, by simp [lus], hrow⟩
        · refine ⟨.int (j : Nat), rfl, rfl, _, rfl, ?_⟩
          by_cases h1 : j = 1
          · subst h1
            refine iteTT (decide_eq_true rfl) ⟨.int z, rfl, _, rfl, step _ _ ⟨_, rfl, rfl, ?_, ?_⟩⟩
            · show (0 : Int) ≤ _
              split <;> omega
            · split <;> omega
          · refine iteFF (decide_eq_false (fun y => h1 (by have := V.int.inj y; omega))) (step _ _ ⟨z, rfl, rfl, ?_, hz⟩)
            have : j = 0 := by omega
            subst this
            show (-1000000000000 : Int) ≤ z
            omega
      · rintro σ Hm ⟨y7, y8, y9, y10, tm, us, rfl, Dm, htm, xm, tkm, ePm, ⟨eEm, eFm⟩, eAm, eRm, eWm, lus, hus⟩
        rw [List.length_map] at lus htm
        refine ⟨.ref Fd, rfl, .inl ⟨rfl, _, SqL.of eRm⟩, .ref Rw, rfl, Rw, _, rfl, .inl ⟨SqL.of eWm, fun T nT => ?_⟩⟩
        have sT := sameNew (o := .tup (us.map V.int)) nT
        have eRt := sT _ _ eRm
        have tkp := TupK.put (o := .lst (rows ++ [.ref T])) eRt
        refine ⟨Fd, rows, _, rfl, rfl, eRt, Nat.lt_of_le_of_lt (show rows.length ≤ 100 by omega) (small (by decide)), ?_⟩
        have nFp : p ≠ Fd := fun z => by have h := Fc.eP; rw [z, nFd] at h; cases h
        have nFe : e ≠ Fd := fun z => by have h := Fc.eX; rw [z, nFd] at h; cases h
        have nFf : f ≠ Fd := fun z => by have h := Fc.eF; rw [z, nFd] at h; cases h
        refine ⟨_, _, _, _, _, _, tm, rows ++ [.ref T], uss ++ [us], rfl, (Dm.same sT).put oF, by omega, ExtPut (xm.trans (Ext.of sT)) fF, ⟨by rw [upd_ne nFp]; exact sT _ _ ePm, by rw [upd_ne nFe]; exact sT _ _ eEm, by rw [upd_ne nFf]; exact sT _ _ eFm⟩, upd_same, (hRa.mono fun _ _ h => h.tk ((tkm.trans (TupK.of sT)).trans tkp)).snoc ⟨T, rfl, tkp.sq (SqT.of upd_same)⟩, by simp [luj], fun k us' h => ?_⟩
        by_cases hk : k < uss.length
        · rw [List.getElem?_append_left hk] at h
          exact hku k us' h
        · have e1 : k = uss.length := by
            have := (List.getElem?_eq_some_iff.mp h).1
            simp at this; omega
          rw [e1, List.getElem?_append_right (Nat.le_refl _), Nat.sub_self] at h
          cases h
          rw [e1, luj]
          exact ⟨by omega, hus⟩
    · rintro σ Hj ⟨y5, y6, y7, y8, y9, y10, tj, rows, uss, rfl, Dj, htj, xj, _, eRj, hRj, luj, hku⟩
      have luj : uss.length = 2 := luj
      have htj : tj ≤ t + 24 * 2 := htj
      obtain ⟨us, vs', rfl⟩ : ∃ us vs', uss = [us, vs'] := by
        match uss, luj with
        | [a, b], _ => exact ⟨a, b, rfl⟩
      have lr := hRj.1
      obtain ⟨v1, v2, rfl⟩ : ∃ v1 v2, rows = [v1, v2] := by
        match rows, lr with
        | [a, b], _ => exact ⟨a, b, rfl⟩
      obtain ⟨pa, rfl, hA⟩ := hRj.2 0 v1 us rfl rfl
      obtain ⟨pb, rfl, hB⟩ := hRj.2 1 v2 vs' rfl rfl
      obtain ⟨l1, r1⟩ := hku 0 us rfl
      obtain ⟨l2, r2⟩ := hku 1 vs' rfl
      refine ⟨.ref Fd, rfl, Fd, _, rfl, .inl ⟨SqL.of eRj, fun T nT => ?_⟩⟩
      have sT := sameNew (o := .tup [.ref pa, .ref pb]) nT
      refine q _ T pa pb tj us vs' (Dj.same sT) (by omega) (xj.trans (Ext.of sT)) (SqT.of upd_same) (sqS sT hA) (sqS sT hB) l1 l2 ?_
      rw [pr_sides]
      have k1 := rowK_side l1 r1
      have k2 := rowK_side l2 r2
      rw [Bool.and_eq_true]
      exact ⟨k1, k2⟩
end
end Pv

namespace Pv
open PySem PySem.Spec PyProof.Rows L2
abbrev sRi : Stmt := topS 49
theorem scRi : FnScope ["_law_deck_here", "_law_instance", "_law_vector", "_law_weights_here", "_law_turn", "_law_prices_here", "_law_kept", "_law_due", "_law_again", "_law_value_here"] ["_law_deck_here", "_law_instance", "_law_vector"] (defScope sRi) := ⟨rfl, rfl, rfl, by decide +kernel, rfl, by decide +kernel, by decide +kernel⟩
theorem fit_show {k W : Nat} {d : PyData} (h : Fit (10 ^ 29) k W d) (hk : k ≤ 60) (hW : W ≤ 1000000) : d.showable = true ∧ d.depth ≤ 60 ∧ d.shown.length ≤ sizeLine := by
  obtain ⟨a1, a2⟩ := fit_ok (M := 10 ^ 29) (by decide) h.ok
  have a3 : sizeLine = 16777216 := sizeLine_eq
  exact ⟨a1, Nat.le_trans h.dp hk, by have := h.wt; omega⟩
theorem show_int {i : Int} (h : i.natAbs ≤ 10 ^ 29) : (PyData.int i).showable = true ∧ (PyData.int i).depth ≤ 60 ∧ (PyData.int i).shown.length ≤ sizeLine := fit_show (k := 0) (W := 40) (Fit.int h (by decide)) (by decide) (by decide)
theorem show_bad : (PyData.str "bad").showable = true ∧ (PyData.str "bad").depth ≤ 60 ∧ (PyData.str "bad").shown.length ≤ sizeLine := by
  refine ⟨by decide +kernel, by decide, ?_⟩
  rw [sizeLine_eq]
  decide +kernel
theorem sum_absB {B : Nat} : ∀ l : List Int, (∀ x ∈ l, x.natAbs ≤ B) → l.sum.natAbs ≤ l.length * B
  | [], _ => by simp
  | x :: l, h => by
    have h1 := h x (List.mem_cons_self ..)
    have h2 := sum_absB l fun y hy => h y (List.mem_cons_of_mem _ hy)
    rw [List.sum_cons, List.length_cons, Nat.succ_mul]
    omega
theorem dot_abs {as bs : List Int} {A B : Nat} (ha : ∀ x ∈ as, x.natAbs ≤ A) (hb : ∀ x ∈ bs, x.natAbs ≤ B) (n : Nat) (hn : as.length ≤ n) : (dotL as bs).natAbs ≤ n * (A * B) := by
  unfold dotL
  have h1 := sum_absB (B := A * B) ((as.zip bs).map (fun z => z.1 * z.2)) (fun x hx => by
    obtain ⟨z, hz, rfl⟩ := List.mem_map.mp hx
    have h := List.of_mem_zip hz
    rw [Int.natAbs_mul]
    exact Nat.mul_le_mul (ha _ h.1) (hb _ h.2))
  rw [List.length_map, List.length_zip] at h1
  exact Nat.le_trans h1 (Nat.mul_le_mul_right _ (by omega))
section
variable {cs : List Int} {gs : List Gp}
theorem sp_absB (ok : InsOk cs gs) {q : Nat} (hq : q < cs.length) : (spOf cs gs (q : Int)).natAbs ≤ 11 * 10 ^ 12 := by
  rw [sp_at ok q]
  have h1 : cs.getD q 0 = cs[q] := by rw [List.getD_eq_getElem?_getD, List.getElem?_eq_getElem hq]; rfl
  have h2 := ok.cb cs[q] (List.getElem_mem hq)
  have h3 := sum_absB (B := 10 ^ 12) (gs.map (headC q)) (fun x hx => by
    obtain ⟨g, hg, rfl⟩ := List.mem_map.mp hx
    have := (ok.gp g hg).2.2
    unfold headC
    split
    · exact Nat.zero_le _
    · split <;> omega)
  rw [List.length_map] at h3
  have h4 := Nat.mul_le_mul_right (10 ^ 12) ok.g10
  rw [h1]
  omega
theorem mx_abs {x : Int} {B : Nat} (h : x.natAbs ≤ B) : (mx x).natAbs ≤ B := by unfold mx; split <;> omega
theorem exc_abs (ok : InsOk cs gs) : ∀ x ∈ rExc cs gs, x.natAbs ≤ 11 * 10 ^ 12 := fun x hx => by
  obtain ⟨q, hq, e⟩ := List.mem_iff_getElem.mp hx
  have hq2 : q < cs.length := by rw [rExc_len] at hq; exact hq
  rw [← e, (exc_get hq2).1]
  exact mx_abs (by rw [Int.natAbs_neg]; exact sp_absB ok hq2)
theorem fre_abs (ok : InsOk cs gs) : ∀ x ∈ rFre cs gs, x.natAbs ≤ 11 * 10 ^ 12 := fun x hx => by
  obtain ⟨q, hq, e⟩ := List.mem_iff_getElem.mp hx
  have hq2 : q < cs.length := by rw [rFre_len] at hq; exact hq
  rw [← e, (exc_get hq2).2]
  exact mx_abs (sp_absB ok hq2)
theorem bnd_abs (ok : InsOk cs gs) {ws us vs : List Int} (hw : ∀ x ∈ ws, x.natAbs ≤ 10 ^ 9) (hu : ∀ x ∈ us, x.natAbs ≤ 10 ^ 12) (hv : ∀ x ∈ vs, x.natAbs ≤ 10 ^ 12) : (bndOf cs gs ws us vs).natAbs ≤ 10 ^ 29 := by
  have h1 := dot_abs (exc_abs ok) hu 6 (by rw [rExc_len]; exact ok.c6)
  have h2 := dot_abs (fre_abs ok) hv 6 (by rw [rFre_len]; exact ok.c6)
  have h3 := sum_absB (B := 10 ^ 12 * (4 * 10 ^ 12)) ((List.range gs.length).map fun j => rowB us vs (ws.getD j 0) (gs.getD j ([], 0)).2 (routeOf cs gs (gs.getD j ([], 0)))) (fun x hx => by
    obtain ⟨j, hj, rfl⟩ := List.mem_map.mp hx
    have hj := List.mem_range.mp hj
    have hg : gs.getD j ([], 0) ∈ gs := by rw [List.getD_eq_getElem?_getD, List.getElem?_eq_getElem hj]; exact List.getElem_mem hj
    have hgp := (ok.gp _ hg).2.2
    cases routeOf cs gs (gs.getD j ([], 0)) with
    | none => exact Nat.zero_le _
    | some r =>
      unfold rowB
      rw [Int.natAbs_mul]
      refine Nat.mul_le_mul (by omega) (mx_abs ?_)
      have e1 := getD_abs hw j
      have e2 := getD_abs hu r.1.toNat
      unfold costOf
      cases r.2 with
      | none => simp only; omega
      | some y =>
        have e3 := getD_abs hv y.toNat
        simp only; omega)
  rw [List.length_map, List.length_range] at h3
  have h4 := Nat.mul_le_mul_right (10 ^ 12 * (4 * 10 ^ 12)) ok.g10
  unfold bndOf
  omega
theorem vec_abs (ok : InsOk cs gs) {xs : List Int} (hv : IsVec cs gs xs) : ∀ x ∈ xs, x.natAbs ≤ 10 ^ 12 := fun x hx => by
  obtain ⟨hl, hb, _⟩ := hv
  obtain ⟨j, hj, e⟩ := List.mem_iff_getElem.mp hx
  have hg : gs[j]? = some (gs[j]'(by omega)) := List.getElem?_eq_getElem (by omega)
  have h1 := hb j _ x hg (by rw [List.getElem?_eq_getElem hj, e])
  have h2 := (ok.gp _ (List.mem_of_getElem? hg)).2.2
  omega
theorem val_abs (ok : InsOk cs gs) {ws xs : List Int} (hw : ∀ x ∈ ws, x.natAbs ≤ 10 ^ 9) (hv : IsVec cs gs xs) (hl : ws.length ≤ 10) : (dotL ws xs).natAbs ≤ 10 ^ 29 := by
  have := dot_abs hw (vec_abs ok hv) 10 hl
  omega
theorem fitIB (ok : InsOk cs gs) : Fit (10 ^ 29) 5 20000 (dInst cs gs) := by
  have h6 := ok.c6
  have h10 := ok.g10
  refine fit_dInst ⟨by omega, fun x hx => ?_⟩ (by omega) (fun g' hg' => ⟨(by have := (ok.gp g' hg').1; omega), fun x hx => ?_, ?_⟩)
  · have h1 := ok.cb x hx; omega
  · have h1 := (ok.gp g' hg').2.1 x hx; omega
  · have h1 := (ok.gp g' hg').2.2; omega
theorem show_kept (ok : InsOk cs gs) {ws us vs : List Int} (hw : ∀ x ∈ ws, x.natAbs ≤ 10 ^ 9) (hu : ∀ x ∈ us, x.natAbs ≤ 10 ^ 12) (hv : ∀ x ∈ vs, x.natAbs ≤ 10 ^ 12) (lw : ws.length ≤ 10) (lu : us.length ≤ 6) (lv : vs.length ≤ 6) :
    (PyData.list [dInst cs gs, dI ws, .tuple [dI us, dI vs]]).showable = true ∧ (PyData.list [dInst cs gs, dI ws, .tuple [dI us, dI vs]]).depth ≤ 60 ∧ (PyData.list [dInst cs gs, dI ws, .tuple [dI us, dI vs]]).shown.length ≤ sizeLine := by
  have fI := fitIB ok
  have fw := fit_dI hw
  have fu := fit_dI hu
  have fv := fit_dI hv
  have fp : Fit (10 ^ 12) 2 1000 (.tuple [dI us, dI vs]) := by
    refine Fit.tup (fun d hd => ?_) (by decide) ?_
    · simp only [List.mem_cons, List.not_mem_nil, or_false] at hd
      rcases hd with rfl | rfl
      · exact ⟨fu.ok, by have := fu.dp; omega⟩
      · exact ⟨fv.ok, by have := fv.dp; omega⟩
    · have h1 := fu.wt
      have h2 := fv.wt
      simp only [wtAll]; omega
  refine fit_show (k := 6) (W := 30000) (Fit.lst (fun d hd => ?_) (by decide) ?_) (by decide) (by decide)
  · simp only [List.mem_cons, List.not_mem_nil, or_false] at hd
    rcases hd with rfl | rfl | rfl
    · exact ⟨fI.ok, by have := fI.dp; omega⟩
    · exact ⟨fit_mono (by decide) fw.ok, by have := fw.dp; omega⟩
    · exact ⟨fit_mono (by decide) fp.ok, by have := fp.dp; omega⟩
  · have h1 := fI.wt
    have h2 := fw.wt
    have h3 := fp.wt
    simp only [wtAll]; omega
end
section
variable {P : Program} {w : World} {K : PySem.W.Frag} {mg : Str → Option Value} {base : Heap}
def spRi (K : PySem.W.Frag) : Sp := fun vs H Q _ => ∃ (st c r i x : Addr) (t : Nat) (cs xs : List Int) (gs : List Gp), vs = [.ref st, .ref i, .ref x] ∧ DU H st c r t ∧ t + 2000 < 900000 ∧ Dp K H (.ref i) (dInst cs gs) ∧ InsOk cs gs ∧ SqT K H x (xs.map V.int) ∧ IsVec cs gs xs ∧
  ∀ (H' : Hp) (t' : Nat), DU H' st c r t' → t' ≤ t + 1200 → Ext st r H H' → Q (.bl true) H'
set_option maxHeartbeats 16000000 in
theorem ok_Ri {f fDr fWe fVv fVa fSm fPs fBo fTo fCh fAp : Addr} {fd fdDr fdWe fdVv fdVa fdSm fdPs fdBo fdTo fdCh fdAp : FuncData} (F : Fun K "_law_right" "_law_right" sRi f fd)
    (FDr : Fun K "_law_draw" "_law_draw" sDr fDr fdDr) (bDr : Binds K fdDr ["_law_deck_here", "_law_many"] []) (gDr : mg "_law_draw" = some (.ref fDr)) (GDr : FnOk P w K mg base CX0 1 fDr fdDr ["_law_deck_here", "_law_many"] spDraw)
    (FWe : Fun K "_law_weights" "_law_weights" sWe fWe fdWe) (bWe : Binds K fdWe ["_law_deck_here", "_law_many", "_law_most"] []) (gWe : mg "_law_weights" = some (.ref fWe)) (GWe : FnOk P w K mg base CX0 3 fWe fdWe ["_law_deck_here", "_law_many", "_law_most"] (spWe K))
    (FVv : Fun K "vector_value" "vector_value" sVv fVv fdVv) (bVv : Binds K fdVv ["weights", "vector"] []) (gVv : mg "vector_value" = some (.ref fVv)) (GVv : FnOk P w K mg base CX0 1 fVv fdVv ["weights", "vector"] (spVv K))
    (FVa : Fun K "_law_value" "_law_value" sVa fVa fdVa) (bVa : Binds K fdVa ["_law_weights_here", "_law_vector"] []) (gVa : mg "_law_value" = some (.ref fVa)) (GVa : FnOk P w K mg base CX0 1 fVa fdVa ["_law_weights_here", "_law_vector"] (spVv K))
    (FSm : Fun K "_law_same" "_law_same" sSm fSm fdSm) (bSm : Binds K fdSm ["_law_found", "_law_due"] []) (gSm : mg "_law_same" = some (.ref fSm)) (GSm : FnG P w K mg base  1 fSm fdSm ["_law_found", "_law_due"] (spSm K))
    (FPs : Fun K "_law_prices" "_law_prices" sPs fPs fdPs) (bPs : Binds K fdPs ["_law_deck_here", "_law_instance", "_law_weights_here"] []) (gPs : mg "_law_prices" = some (.ref fPs)) (GPs : FnOk P w K mg base CX0 3 fPs fdPs ["_law_deck_here", "_law_instance", "_law_weights_here"] (spPs K))
    (FBo : Fun K "_law_bound" "_law_bound" sBo fBo fdBo) (bBo : Binds K fdBo ["_law_instance", "_law_weights_here", "_law_prices_here"] []) (gBo : mg "_law_bound" = some (.ref fBo)) (GBo : FnOk P w K mg base CX0 2 fBo fdBo ["_law_instance", "_law_weights_here", "_law_prices_here"] (spBo K))
    (FTo : Fun K "_law_told" "_law_told" sTo fTo fdTo) (bTo : Binds K fdTo ["_law_instance", "_law_weights_here", "_law_prices_here"] []) (gTo : mg "_law_told" = some (.ref fTo)) (GTo : FnOk P w K mg base CX0 7 fTo fdTo ["_law_instance", "_law_weights_here", "_law_prices_here"] (spTo K))
    (FCh : Fun K "_law_changed" "_law_changed" sCh fCh fdCh) (bCh : Binds K fdCh ["_law_deck_here", "_law_value_here", "_law_depth"] []) (gCh : mg "_law_changed" = some (.ref fCh)) (GCh : FnOk P w K mg base CX0 8 fCh fdCh ["_law_deck_here", "_law_value_here", "_law_depth"] (spCh K 4))
    (FAp : Fun K "_law_are_prices" "_law_are_prices" sAp fAp fdAp) (bAp : Binds K fdAp ["_law_instance", "_law_value_here"] []) (gAp : mg "_law_are_prices" = some (.ref fAp)) (GAp : FnOk P w K mg base CX0 2 fAp fdAp ["_law_instance", "_law_value_here"] (spVp K))
    (m_len : mg "len" = none) (m_range : mg "range" = none) (m_repr : mg "repr" = none) :
    FnG P w K mg base 9 f fd ["_law_deck_here", "_law_instance", "_law_vector"] (spRi K) := by
  refine okG F scRi (fun vs H Q E h => ?_) (fun cdv A outer s H vs Q E hgd hr h => ?_)
  · obtain ⟨st, c, r, i, x, t, cs, xs, gs, rfl, _⟩ := h; rfl
  · obtain ⟨st, c, r, i, x, t, cs, xs, gs, rfl, D0, ht, hI, ok, hX, hv, q⟩ := h
    refine ⟨_, pss_cons (ps_set (i := 3) scRi.nd rfl (.inl rfl) (pe_call GWe (hr.mono (by omega)) (by rfl) gWe FWe.kp bWe .nil pass0 (pa_cons (pv 0) (pa_cons (pe_callB call_lenQ (by rfl) m_len PySem.boot_len (pa_cons (pe_ix ix_tup (pv 1) (pe_int) (fun _ _ => rfl)) pa_nil)) (pa_cons (pe_ix ix_list (pe_lst (pa_cons (pe_int) (pa_cons (pe_op op_pow (pe_int) (pe_int)) pa_nil))) (pe_call GDr (hr.mono (by omega)) (by rfl) gDr FDr.kp bDr .nil pass0 (pa_cons (pv 0) (pa_cons (pe_int) pa_nil))) (fun _ _ => rfl)) pa_nil)))))
      (pss_cons (ps_if (pt_not (pt_val (pe_callG GSm hgd (hr.mono (by omega)) (by rfl) gSm FSm.kp bSm (pa_cons (pe_call GVv (hr.mono (by omega)) (by rfl) gVv FVv.kp bVv .nil pass0 (pa_cons (pv 3) (pa_cons (pv 2) pa_nil))) (pa_cons (pe_call GVa (hr.mono (by omega)) (by rfl) gVa FVa.kp bVa .nil pass0 (pa_cons (pv 3) (pa_cons (pv 2) pa_nil))) pa_nil)))))
        (pss_one (ps_ret (pe_bl))) pss_nil)
      (pss_cons (ps_for PassesOwn.never rfl (pi_range1 (by rfl) m_range (pa_cons (pe_int) pa_nil)) (pg_name (i := 4) scRi.nd rfl (.inl rfl))
        (pss_cons (ps_set (i := 5) scRi.nd rfl (.inl rfl) (pe_call GPs (hr.mono (by omega)) (by rfl) gPs FPs.kp bPs .nil pass0 (pa_cons (pv 0) (pa_cons (pv 1) (pa_cons (pv 3) pa_nil)))))
        (pss_cons (ps_set (i := 6) scRi.nd rfl (.inl rfl) (pe_callB (call_reprA hgd (hu70 hr)) (by rfl) m_repr (by decide +kernel) (pa_cons (pe_lstS (pa_cons (pv 1) (pa_cons (pv 3) (pa_cons (pv 5) pa_nil)))) pa_nil)))
        (pss_cons (ps_set (i := 7) scRi.nd rfl (.inl rfl) (pe_call GBo (hr.mono (by omega)) (by rfl) gBo FBo.kp bBo .nil pass0 (pa_cons (pv 1) (pa_cons (pv 3) (pa_cons (pv 5) pa_nil)))))
        (pss_cons (ps_if (PW.pt (pw_or (pt_not (pt_val (pe_callG GSm hgd (hr.mono (by omega)) (by rfl) gSm FSm.kp bSm (pa_cons (pe_call GTo (hr.mono (by omega)) (by rfl) gTo FTo.kp bTo .nil pass0 (pa_cons (pv 1) (pa_cons (pv 3) (pa_cons (pv 5) pa_nil)))) (pa_cons (pv 7) pa_nil))))) (pw_or1 (pt_cmpR op_lt (pv 7) (pe_call GVa (hr.mono (by omega)) (by rfl) gVa FVa.kp bVa .nil pass0 (pa_cons (pv 3) (pa_cons (pv 2) pa_nil))) (nomark _)))))
          (pss_one (ps_ret (pe_bl))) pss_nil)
        (pss_cons (ps_for PassesOwn.never rfl (pi_range1 (by rfl) m_range (pa_cons (pe_int) pa_nil)) (pg_name (i := 8) scRi.nd rfl (.inl rfl))
          (pss_cons (ps_set (i := 9) scRi.nd rfl (.inl rfl) (pe_call GCh (hr.mono (by omega)) (by rfl) gCh FCh.kp bCh .nil pass0 (pa_cons (pv 0) (pa_cons (pv 5) (pa_cons (pe_int) pa_nil)))))
          (pss_cons (ps_set (i := 7) scRi.nd rfl (.inl rfl) (pe_ifExp (pt_val (pe_call GAp (hr.mono (by omega)) (by rfl) gAp FAp.kp bAp .nil pass0 (pa_cons (pv 1) (pa_cons (pv 9) pa_nil)))) (pe_call GBo (hr.mono (by omega)) (by rfl) gBo FBo.kp bBo .nil pass0 (pa_cons (pv 1) (pa_cons (pv 3) (pa_cons (pv 9) pa_nil)))) (pe_str)))
          (pss_one (ps_if (pt_not (pt_val (pe_callG GSm hgd (hr.mono (by omega)) (by rfl) gSm FSm.kp bSm (pa_cons (pe_call GTo (hr.mono (by omega)) (by rfl) gTo FTo.kp bTo .nil pass0 (pa_cons (pv 1) (pa_cons (pv 3) (pa_cons (pv 9) pa_nil)))) (pa_cons (pv 7) pa_nil)))))
            (pss_one (ps_ret (pe_bl))) pss_nil)))))
        (pss_one (ps_if (pt_cmpR op_ne (pe_callB (call_reprA hgd (hu70 hr)) (by rfl) m_repr (by decide +kernel) (pa_cons (pe_lstS (pa_cons (pv 1) (pa_cons (pv 3) (pa_cons (pv 5) pa_nil)))) pa_nil)) (pv 6) (nomark _))
          (pss_one (ps_ret (pe_bl))) pss_nil))))))))
      (pss_one (ps_ret (pe_bl))))), ?_⟩
    obtain ⟨_, ca, ga, ys, e0, hi, hc, hgt, hgs⟩ := inst_open hI
    cases e0
    have lx := DpAll.len hgs
    rw [List.length_map] at lx
    have h10 := ok.g10
    have h6 := ok.c6
    have hl := hv.1
    refine ⟨.ref st, rfl, .ref i, rfl, i, _, 1, .ref ga, rfl, rfl, hi, atI_nat (j := 1) rfl, ga, _, rfl, .inr hgt, ?_⟩
    refine ⟨_, _, rfl, rfl, ⟨by decide, by decide, by decide⟩, (show (2 : Nat) ≤ sizeLine by decide), fun L nL => ?_⟩
    have oL := D0.off nL
    refine ⟨.ref st, rfl, st, c, r, t, 2, rfl, D0.new nL, by omega, by decide, by decide, fun H1 d d0 d1 D1 X1 => ?_⟩
    have eL1 := X1 _ _ upd_same oL.1 oL.2.2
    obtain ⟨mo, hat, mo1, mo2⟩ : ∃ mo : Int, atI [V.int 3, V.int ((10 : Int) ^ (9 : Int).toNat)] d = some (.int mo) ∧ 1 ≤ mo ∧ mo ≤ 10 ^ 9 := by
      obtain h | h : d = 0 ∨ d = 1 := by omega
      · exact ⟨3, by rw [h]; rfl, by decide, by decide⟩
      · exact ⟨10 ^ 9, by rw [h]; rfl, by decide, by decide⟩
    have X01 := (Ext.of (sameNew (o := .lst [V.int 3, V.int ((10 : Int) ^ (9 : Int).toNat)]) nL)).trans X1
    refine ⟨L, _, _, _, rfl, rfl, SqL.of eL1, hat, st, c, r, t + 1, ys.length, mo, rfl, D1, by omega, by omega, mo1, mo2, fun H2 wA t2 ws D2 ht2 X2 hW lw bw => ?_⟩
    have X02 := X01.trans X2
    have tk02 := D0.tup X02
    have bw12 : ∀ w ∈ ws, w.natAbs ≤ 10 ^ 12 := fun w hw => Nat.le_trans (bw w hw) (by decide)
    have lw2 : ws.length = gs.length := by omega
    -- the value of the vector
    refine ⟨.ref wA, rfl, .ref x, rfl, wA, x, ws, xs, rfl, hW, tk02.sq hX, by omega, by omega, bw12, fun H3 s3 => ?_⟩
    refine ⟨.ref wA, rfl, .ref x, rfl, wA, x, ws, xs, rfl, sqS s3 hW, sqS s3 (tk02.sq hX), by omega, by omega, bw12, fun H4 s4 => ?_⟩
    have hvs := show_int (val_abs ok bw hv (by omega))
    refine ⟨_, _, .int (dotL ws xs), .int (dotL ws xs), st, r, rfl, .int _, .int _, hvs, hvs, rfl, _, rfl, iteF ?_⟩
    have s24 := s3.trans s4
    have D4 := D2.same s24
    have X04 := X02.trans (Ext.of s24)
    have hW4 := sqS s24 hW
    refine ⟨_, rfl, by decide, by decide, for_it (walk_range (lo := 0) (n := ((3 : Int)).toNat))
      (fun k σ Hk => ∃ (y4 y5 y6 y7 y8 y9 : Option V) (tk : Nat), σ = [some (.ref st), some (.ref i), some (.ref x), some (.ref wA), y4, y5, y6, y7, y8, y9] ∧ DU Hk st c r tk ∧ tk ≤ t2 + 220 * k ∧ Ext st r H Hk ∧ Ext st r H4 Hk)
      ⟨none, none, none, none, none, none, t2, rfl, D4, by omega, X04, Ext.of (Same.refl _)⟩ (fun _ _ _ _ _ => trivial) ?_ ?_⟩
    · rintro k v σ Hy Hk hlt ⟨y4, y5, y6, y7, y8, y9, tk, rfl, Dk, htk, X0k, X4k⟩ ⟨rfl, rfl⟩
      have hk3 : k < 3 := hlt
      have tk0 := D0.tup X0k
      have hIk := tk0.dp _ _ (to_dInst _ _) hI
      have hWk := (D4.tup X4k).sq hW4
      refine ⟨.ref st, rfl, .ref i, rfl, .ref wA, rfl, st, c, r, i, wA, tk, cs, ws, gs, rfl, Dk, by omega, hIk, ok, hWk, lw2, bw, fun H5 b pa pb t5 us vs' D5 ht5 X5 hB hA hP lu lv hpr => ?_⟩
      obtain ⟨us2, vs2, epr, _, _, bu, bv, _, _, nn⟩ := pr_open hpr
      obtain ⟨rfl, rfl⟩ : us = us2 ∧ vs' = vs2 := by
        injection epr with e1
        injection e1 with e2 e3
        injection e3 with e4
        have g1 := congrArg intsP e2
        have g2 := congrArg intsP e4
        rw [intsP_dI, intsP_dI] at g1 g2
        exact ⟨g1, g2⟩
      have X05 := X0k.trans X5
      have hI5 := (D0.tup X05).dp _ _ (to_dInst _ _) hI
      have hW5 := (Dk.tup X5).sq hWk
      have hX5 := (D0.tup X05).sq hX
      have sk := show_kept ok bw bu bv (by omega) (by omega) (by omega)
      have dB : ∀ {Hn : Hp}, TupK H5 Hn → Dq K st r Hn (.ref b) (.tuple [dI us, dI vs']) := fun tn => .tup (tn.sq hB) (.cons (.of_dp (to_ints us) (dI_sq (tn.sq hA))) (.cons (.of_dp (to_ints vs') (dI_sq (tn.sq hP))) .nil))
      have dK : ∀ {Hn : Hp}, TupK H5 Hn → DqAll K st r Hn [.ref i, .ref wA, .ref b] [dInst cs gs, dI ws, .tuple [dI us, dI vs']] := fun tn => .cons (.of_dp (to_dInst _ _) (tn.dp _ _ (to_dInst _ _) hI5)) (.cons (.of_dp (to_ints ws) (dI_sq (tn.sq hW5))) (.cons (dB tn) .nil))
      -- what is kept
      refine ⟨.ref i, rfl, .ref wA, rfl, .ref b, rfl, (show (3 : Nat) ≤ sizeLine by decide), fun Lk nLk mLk => ?_⟩
      have sLk := sameNew (o := .lst [.ref i, .ref wA, .ref b]) nLk
      have oLk := D5.off nLk
      refine ⟨_, _, st, r, rfl, .lst upd_same oLk.1 oLk.2.2 mLk (dK (.of sLk)), sk.1, sk.2.1, sk.2.2, ?_⟩
      have D6 := D5.same sLk
      generalize upd H5 Lk (.lst [.ref i, .ref wA, .ref b]) = H6 at sLk D6 ⊢
      have tk6 := TupK.of sLk
      -- due
      refine ⟨.ref i, rfl, .ref wA, rfl, .ref b, rfl, i, wA, b, pa, pb, cs, ws, us, vs', gs, rfl, tk6.dp _ _ (to_dInst _ _) hI5, ok, tk6.sq hW5, lw2, tk6.sq hB, tk6.sq hA, tk6.sq hP, lu, lv, bu, bv, fun H7 s7 => ?_⟩
      have s57 := sLk.trans s7
      have tk7 := TupK.of s57
      have hbs := show_int (bnd_abs ok bw bu bv)
      refine ⟨.ref i, rfl, .ref wA, rfl, .ref b, rfl, st, r, i, wA, .ref b, cs, ws, gs, .tuple [dI us, dI vs'], rfl, tk7.dp _ _ (to_dInst _ _) hI5, ok, tk7.sq hW5, lw2, bw12, dB tk7, fun H8 s8 => ⟨fun z => absurd hpr (by rw [z]; decide), fun us3 vs3 e3 _ => ?_⟩⟩
      obtain ⟨rfl, rfl⟩ : us = us3 ∧ vs' = vs3 := by
        injection e3 with e1
        injection e1 with e2 e3
        injection e3 with e4
        have g1 := congrArg intsP e2
        have g2 := congrArg intsP e4
        rw [intsP_dI, intsP_dI] at g1 g2
        exact ⟨g1, g2⟩
      refine ⟨.int (bndOf cs gs ws us vs'), rfl, _, _, .int (bndOf cs gs ws us vs'), .int (bndOf cs gs ws us vs'), st, r, rfl, .int _, .int _, hbs, hbs, rfl, _, rfl, iteFF rfl ?_⟩
      have s58 := s57.trans s8
      have tk8 := TupK.of s58
      refine ⟨.int (bndOf cs gs ws us vs'), rfl, .ref wA, rfl, .ref x, rfl, wA, x, ws, xs, rfl, tk8.sq hW5, tk8.sq hX5, by omega, by omega, bw12, fun H9 s9 => ⟨_, _, rfl, rfl, _, rfl, ?_⟩⟩
      have hdu : dotL ws xs ≤ bndOf cs gs ws us vs' := duality ok hv lw2 lu lv nn
      refine iteFF (decide_eq_false (by omega)) ?_
      have s59 := s58.trans s9
      have D9 := D5.same s59
      have X59 : Ext st r H5 H9 := Ext.of s59
      clear D6 tk6 tk7 s57 s58 tk8
      -- values near the prices
      refine ⟨_, rfl, by decide, by decide, for_it (walk_range (lo := 0) (n := ((5 : Int)).toNat))
        (fun m σ Hm => ∃ (y7 y8 y9 : Option V) (tm : Nat), σ = [some (.ref st), some (.ref i), some (.ref x), some (.ref wA), some (.int (0 + (k : Nat))), some (.ref b), some (.str (PyData.list [dInst cs gs, dI ws, .tuple [dI us, dI vs']]).shown), y7, y8, y9] ∧ DU Hm st c r tm ∧ tm ≤ t5 + 24 * m ∧ Ext st r H5 Hm)
        ⟨_, _, _, t5, rfl, D9, by omega, X59⟩ (fun _ _ _ _ _ => trivial) ?_ ?_⟩
      · rintro m v1 σ Hz Hm hltm ⟨y7, y8, y9, tm, rfl, Dm, htm, X5m⟩ ⟨rfl, rfl⟩
        have hm5 : m < 5 := hltm
        have tkm := D5.tup X5m
        refine ⟨.ref st, rfl, .ref b, rfl, ?_⟩
        have hsh : ShpN 3 (.tuple [dI us, dI vs']) := by
          have h1 := ok.c1
          refine ⟨_, rfl, (by show 1 ≤ 2; decide), (by show 2 ≤ 10; decide), fun e he => ?_⟩
          simp only [List.mem_cons, List.not_mem_nil, or_false] at he
          rcases he with rfl | rfl
          · exact ⟨_, rfl, by rw [List.length_map]; omega, by rw [List.length_map]; omega, fun e he => by obtain ⟨u, _, rfl⟩ := List.mem_map.mp he; exact ⟨u, rfl⟩⟩
          · exact ⟨_, rfl, by rw [List.length_map]; omega, by rw [List.length_map]; omega, fun e he => by obtain ⟨u, _, rfl⟩ := List.mem_map.mp he; exact ⟨u, rfl⟩⟩
        refine ⟨st, c, r, tm, .ref b, .tuple [dI us, dI vs'], rfl, Dm, (show tm + 6 * (3 + 1) < 900000 by omega), dB tkm, hsh, fun Ha v' d' ta Da hta Xa hd' => ?_⟩
        have hta : ta ≤ tm + 6 * (3 + 1) := hta
        have X5a := X5m.trans Xa
        have tka := D5.tup X5a
        refine ⟨.ref i, rfl, v', rfl, st, r, i, v', cs, gs, d', rfl, tka.dp _ _ (to_dInst _ _) hI5, ok, hd', fun Hb sb => ⟨_, rfl, ?_⟩⟩
        have tkb := tka.trans (TupK.of sb)
        have hdb := hd'.lasts (.of (st := st) (r := r) sb)
        cases hp : prD cs gs d' with
        | true =>
          refine iteT ?_
          obtain ⟨us3, vs3, rfl, l3, l4, b3, b4, _, _, _⟩ := pr_open hp
          obtain ⟨b', rfl, pa', pb', hB', hA', hP'⟩ : ∃ b', v' = .ref b' ∧ ∃ pa' pb', SqT K Hb b' [.ref pa', .ref pb'] ∧ SqT K Hb pa' (us3.map V.int) ∧ SqT K Hb pb' (vs3.map V.int) := by
            cases hdb with
            | tup h1 h2 =>
              cases h2 with
              | cons x1 h2 =>
                cases h2 with
                | cons x2 h2 =>
                  cases h2
                  obtain ⟨pa, rfl, a1⟩ := dq_dI x1
                  obtain ⟨pb, rfl, a2⟩ := dq_dI x2
                  exact ⟨_, rfl, _, _, h1, a1, a2⟩
          refine ⟨.ref i, rfl, .ref wA, rfl, .ref b', rfl, i, wA, b', pa', pb', cs, ws, us3, vs3, gs, rfl, tkb.dp _ _ (to_dInst _ _) hI5, ok, tkb.sq hW5, lw2, hB', hA', hP', l3, l4, b3, b4, fun Hc sc => ?_⟩
          have tkc := tkb.trans (TupK.of sc)
          have hb3 := show_int (bnd_abs ok bw b3 b4)
          refine ⟨.ref i, rfl, .ref wA, rfl, .ref b', rfl, st, r, i, wA, .ref b', cs, ws, gs, _, rfl, tkc.dp _ _ (to_dInst _ _) hI5, ok, tkc.sq hW5, lw2, bw12, hdb.lasts (.of sc), fun Hd sd => ⟨fun z => absurd hp (by rw [z]; decide), fun us4 vs4 e4 _ => ?_⟩⟩
          obtain ⟨rfl, rfl⟩ : us3 = us4 ∧ vs3 = vs4 := by
            injection e4 with e1
            injection e1 with e2 e3
            injection e3 with e4
            have g1 := congrArg intsP e2
            have g2 := congrArg intsP e4
            rw [intsP_dI, intsP_dI] at g1 g2
            exact ⟨g1, g2⟩
          have sbd := sb.trans (sc.trans sd)
          refine ⟨.int (bndOf cs gs ws us3 vs3), rfl, _, _, .int (bndOf cs gs ws us3 vs3), .int (bndOf cs gs ws us3 vs3), st, r, rfl, .int _, .int _, hb3, hb3, rfl, _, rfl, iteF ?_⟩
          exact ⟨_, _, _, ta, rfl, Da.same sbd, by omega, X5a.trans (Ext.of sbd)⟩
        | false =>
          refine iteF ?_
          refine ⟨.ref i, rfl, .ref wA, rfl, v', rfl, st, r, i, wA, v', cs, ws, gs, d', rfl, tkb.dp _ _ (to_dInst _ _) hI5, ok, tkb.sq hW5, lw2, bw12, hdb, fun Hd sd => ⟨fun _ => ?_, fun us4 vs4 e4 z => absurd z (by rw [hp]; decide)⟩⟩
          have sbd := sb.trans sd
          refine ⟨.str "bad", rfl, _, _, .str "bad", .str "bad", st, r, rfl, .str _, .str _, show_bad, show_bad, rfl, _, rfl, iteF ?_⟩
          exact ⟨_, _, _, ta, rfl, Da.same sbd, by omega, X5a.trans (Ext.of sbd)⟩
      · rintro σ Hm ⟨y7, y8, y9, tm, rfl, Dm, htm, X5m⟩
        have htm : tm ≤ t5 + 24 * 5 := htm
        have tkm := D5.tup X5m
        refine ⟨.ref i, rfl, .ref wA, rfl, .ref b, rfl, (show (3 : Nat) ≤ sizeLine by decide), fun L9 nL9 mL9 => ?_⟩
        have sL9 := sameNew (o := .lst [.ref i, .ref wA, .ref b]) nL9
        have oL9 := Dm.off nL9
        refine ⟨_, _, st, r, rfl, .lst upd_same oL9.1 oL9.2.2 mL9 (dK (tkm.trans (.of sL9))), sk.1, sk.2.1, sk.2.2, ?_⟩
        refine ⟨_, rfl, rfl, _, rfl, iteFF (by simp) ?_⟩
        have X9 := X5m.trans (Ext.of sL9)
        exact ⟨_, _, _, _, _, _, tm, rfl, Dm.same sL9, by omega, X05.trans X9, (X4k.trans X5).trans X9⟩
    · rintro σ Hk ⟨y4, y5, y6, y7, y8, y9, tk, rfl, Dk, htk, X0k, X4k⟩
      have htk : tk ≤ t2 + 220 * 3 := htk
      exact q Hk tk Dk (by omega) X0k
end
end Pv

namespace Pv
open PySem PySem.Spec PyProof.Rows L2
abbrev sFi : Stmt := topS 36
theorem scFi : FnScope ["_law_deck_here", "_law_instance", "_law_numbers", "_law_facts_here", "_law_capacities", "_law_vector", "_law_left", "_law_group", "_law_first", "_law_reserve", "_law_more", "_law_used", "_law_post", "_law_other", "_law_one", "_law_spot"] ["_law_deck_here", "_law_instance", "_law_numbers"] (defScope sFi) := ⟨rfl, rfl, rfl, by decide +kernel, rfl, by decide +kernel, by decide +kernel⟩
section
variable {P : Program} {w : World} {K : PySem.W.Frag} {mg : Str → Option Value} {base : Heap}
theorem atD {ds : List Int} {n : Nat} (h : n < ds.length) : (ds.map V.int)[n]? = some (.int (ds.getD n 0)) := by
  rw [List.getElem?_map, List.getD_eq_getElem?_getD, List.getElem?_eq_getElem h]; rfl
structure F3 (H1 : Hp) (Ca Ve Le : Addr) (A B C : List Int) (H : Hp) : Prop where
  s : Same H1 H
  a : H Ca = some (.lst (A.map V.int))
  b : H Ve = some (.lst (B.map V.int))
  c : H Le = some (.lst (C.map V.int))
structure Nu (H1 : Hp) (Ca Ve Le : Addr) : Prop where
  a : H1 Ca = none
  b : H1 Ve = none
  c : H1 Le = none
  ab : Ca ≠ Ve
  ac : Ca ≠ Le
  bc : Ve ≠ Le
section
variable {H1 H : Hp} {Ca Ve Le : Addr} {A B C : List Int}
theorem F3.new (h : F3 H1 Ca Ve Le A B C H) {p : Addr} {o : HO} (np : H p = none) : F3 H1 Ca Ve Le A B C (upd H p o) := ⟨h.s.trans (sameNew np), upNew np h.a, upNew np h.b, upNew np h.c⟩
theorem F3.same (h : F3 H1 Ca Ve Le A B C H) {H' : Hp} (z : Same H H') : F3 H1 Ca Ve Le A B C H' := ⟨h.s.trans z, z _ _ h.a, z _ _ h.b, z _ _ h.c⟩
theorem F3.setB (u : Nu H1 Ca Ve Le) (h : F3 H1 Ca Ve Le A B C H) (B' : List Int) : F3 H1 Ca Ve Le A B' C (upd H Ve (.lst (B'.map V.int))) := ⟨samePut h.s u.b, by rw [upd_ne u.ab]; exact h.a, upd_same, by rw [upd_ne u.bc.symm]; exact h.c⟩
theorem F3.setC (u : Nu H1 Ca Ve Le) (h : F3 H1 Ca Ve Le A B C H) (C' : List Int) : F3 H1 Ca Ve Le A B C' (upd H Le (.lst (C'.map V.int))) := ⟨samePut h.s u.c, by rw [upd_ne u.ac]; exact h.a, by rw [upd_ne u.bc]; exact h.b, upd_same⟩
theorem F3.setA (u : Nu H1 Ca Ve Le) (h : F3 H1 Ca Ve Le A B C H) (A' : List Int) : F3 H1 Ca Ve Le A' B C (upd H Ca (.lst (A'.map V.int))) := ⟨samePut h.s u.a, upd_same, by rw [upd_ne u.ab.symm]; exact h.b, by rw [upd_ne u.ac.symm]; exact h.c⟩
end
def NsOk (gs : List Gp) (ns : List Int) : Prop := ns.length = gs.length ∧ ∀ (j : Nat) (g : Gp), gs[j]? = some g → 0 ≤ ns.getD j 0 ∧ ns.getD j 0 ≤ g.2
/-- a row of the facts, opened -/
theorem row_open {cs : List Int} {gs : List Gp} (ok : InsOk cs gs) {k : Nat} {r : Rw} (h : (rowsTo cs gs gs.length)[k]? = some r) : ∃ (g : Gp) (f : Nat), gs[r.1]? = some g ∧ routeOf cs gs g = some ((f : Int), r.2.2.1) ∧ r.2.1 = (f : Int) ∧ f < cs.length ∧ r.1 < gs.length ∧ spOf cs gs f < 0 ∧ ∀ y, r.2.2.1 = some y → ∃ q : Nat, y = (q : Int) ∧ q < cs.length ∧ 0 < spOf cs gs q := by
  obtain ⟨g, hg, hr, hl⟩ := row_mem (List.mem_of_getElem? h)
  have hm := List.mem_of_getElem? hg
  have hin := route_in ok hm hr
  have hw := route_wf ok hm hr
  have hc := (cro_mem.mp hw.1).2
  simp only at hin hw hc
  have e : r.2.1 = ((r.2.1.toNat : Nat) : Int) := by omega
  refine ⟨g, r.2.1.toNat, hg, by rw [← e]; exact hr, e, by omega, hl, by rw [← e]; exact hc, fun y hy => ?_⟩
  have h1 := hw.2 y hy
  refine ⟨y.toNat, by omega, by omega, ?_⟩
  rw [show ((y.toNat : Nat) : Int) = y by omega]; exact h1.1
def spFi (K : PySem.W.Frag) : Sp := fun vs H Q _ => ∃ (st c r i nA : Addr) (t : Nat) (cs : List Int) (gs : List Gp) (ns : List Int), vs = [.ref st, .ref i, .ref nA] ∧ DU H st c r t ∧ t + 20 < 900000 ∧ Dp K H (.ref i) (dInst cs gs) ∧ InsOk cs gs ∧ (∀ g ∈ gs, g.2 ≤ 10 ^ 11) ∧ H nA = some (.lst (ns.map V.int)) ∧ NsOk gs ns ∧
  ∀ (H' : Hp) (p i' v : Addr) (t' : Nat) (cs' xs : List Int), DU H' st c r t' → t' ≤ t + 10 → Ext st r H H' → SqL K H' p [.ref i', .ref v] → Dp K H' (.ref i') (dInst cs' gs) → InsOk cs' gs → SqT K H' v (xs.map V.int) → IsVec cs' gs xs → Q (.ref p) H'
set_option maxHeartbeats 16000000 in
theorem ok_Fi {f fFa fDr : Addr} {fd fdFa fdDr : FuncData} (F : Fun K "_law_fitted" "_law_fitted" sFi f fd)
    (FFa : Fun K "_law_facts" "_law_facts" sFa fFa fdFa) (bFa : Binds K fdFa ["_law_instance"] []) (gFa : mg "_law_facts" = some (.ref fFa)) (GFa : FnOk P w K mg base CX0 1 fFa fdFa ["_law_instance"] (spFa K))
    (FDr : Fun K "_law_draw" "_law_draw" sDr fDr fdDr) (bDr : Binds K fdDr ["_law_deck_here", "_law_many"] []) (gDr : mg "_law_draw" = some (.ref fDr)) (GDr : FnOk P w K mg base CX0 1 fDr fdDr ["_law_deck_here", "_law_many"] spDraw)
    (m_list : mg "list" = none) (m_len : mg "len" = none) (m_min : mg "min" = none) (m_sum : mg "sum" = none) (m_max : mg "max" = none) (m_range : mg "range" = none) (m_tuple : mg "tuple" = none) :
    FnOk P w K mg base CX0 2 f fd ["_law_deck_here", "_law_instance", "_law_numbers"] (spFi K) := by
  refine F.ok scFi (fun vs H Q E h => ?_) (fun cdv A outer s H vs Q E hr h => ?_)
  · obtain ⟨st, c, r, i, nA, t, cs, gs, ns, rfl, _⟩ := h; rfl
  · obtain ⟨st, c, r, i, nA, t, cs, gs, ns, rfl, D0, ht, hI, ok, sml, eN, ⟨lN, bN⟩, q⟩ := h
    refine ⟨_, pss_cons (ps_set (i := 3) scFi.nd rfl (.inl rfl) (pe_call GFa (hr.mono (by omega)) (by rfl) gFa FFa.kp bFa .nil pass0 (pa_cons (pv 1) pa_nil)))
      (pss_cons (ps_set (i := 4) scFi.nd rfl (.inl rfl) (pe_callTy call_list_of (by rfl) m_list (by decide +kernel) (pa_cons (pe_ix ix_tup (pv 1) (pe_int) (fun _ _ => rfl)) pa_nil)))
      (pss_cons (ps_set (i := 5) scFi.nd rfl (.inr rfl) (pe_op op_rep (pe_lst (pa_cons (pe_int) pa_nil)) (pe_callB call_lenQ (by rfl) m_len PySem.boot_len (pa_cons (pv 2) pa_nil))))
      (pss_cons (ps_set (i := 6) scFi.nd rfl (.inl rfl) (pe_callTy call_list_of (by rfl) m_list (by decide +kernel) (pa_cons (pe_ix ix_list (pv 3) (pe_int) (fun _ _ => rfl)) pa_nil)))
      (pss_cons (ps_for PassesOwn.never rfl (pi_list (pe_ix ix_list (pv 3) (pe_int) (fun _ _ => rfl))) (pg_tup rfl (pgs_cons (pg_name (i := 7) scFi.nd rfl (.inl rfl)) (pgs_cons (pg_name (i := 8) scFi.nd rfl (.inl rfl)) (pgs_cons (pg_name (i := 9) scFi.nd rfl (.inr rfl)) pgs_nil))))
        (pss_cons (ps_asg (pe_callB (call_min2 rfl) (by rfl) m_min (by decide +kernel) (pa_cons (pe_ix ix_list (pv 2) (pv 7) (fun _ _ => rfl)) (pa_cons (pe_ix ix_list (pv 6) (pv 8) (fun _ _ => rfl)) pa_nil))) (pg_sub (pv 5) (pv 7) set_list))
        (pss_one (ps_asg (pe_op op_sub (pe_ix ix_list (pv 6) (pv 8) (fun _ _ => rfl)) (pe_ix ix_list (pv 5) (pv 7) (fun _ _ => rfl))) (pg_sub (pv 6) (pv 8) set_list)))))
      (pss_cons (ps_for PassesOwn.never rfl (pi_list (pe_ix ix_list (pv 3) (pe_int) (fun _ _ => rfl))) (pg_tup rfl (pgs_cons (pg_name (i := 7) scFi.nd rfl (.inl rfl)) (pgs_cons (pg_name (i := 8) scFi.nd rfl (.inl rfl)) (pgs_cons (pg_name (i := 9) scFi.nd rfl (.inr rfl)) pgs_nil))))
        (pss_cons (ps_set (i := 10) scFi.nd rfl (.inl rfl) (pe_callB (call_min2 rfl) (by rfl) m_min (by decide +kernel) (pa_cons (pe_op op_sub (pe_ix ix_tup (pe_ix ix_tup (pe_ix ix_tup (pv 1) (pe_int) (fun _ _ => rfl)) (pv 7) (fun _ _ => rfl)) (pe_int) (fun _ _ => rfl)) (pe_ix ix_list (pv 5) (pv 7) (fun _ _ => rfl))) (pa_cons (pe_ix ix_list (pv 6) (pv 8) (fun _ _ => rfl)) pa_nil))))
        (pss_cons (ps_asg (pe_op op_add (pe_ix ix_list (pv 5) (pv 7) (fun _ _ => rfl)) (pv 10)) (pg_sub (pv 5) (pv 7) set_list))
        (pss_one (ps_asg (pe_op op_sub (pe_ix ix_list (pv 6) (pv 8) (fun _ _ => rfl)) (pv 10)) (pg_sub (pv 6) (pv 8) set_list))))))
      (pss_cons (ps_for PassesOwn.never rfl (pi_list (pe_ix ix_list (pv 3) (pe_int) (fun _ _ => rfl))) (pg_tup rfl (pgs_cons (pg_name (i := 7) scFi.nd rfl (.inl rfl)) (pgs_cons (pg_name (i := 8) scFi.nd rfl (.inl rfl)) (pgs_cons (pg_name (i := 9) scFi.nd rfl (.inr rfl)) pgs_nil))))
        (pss_one (ps_if (pt_cmp (pc_notN (pv 9)))
          (pss_cons (ps_setLc (i := 11) (own := [("_law_other", 13), ("_law_one", 14), ("_law_spot", 15)]) (g := gTup K 3 (gCons (gName 13) (gCons (gName 14) (gCons (gName 15) gNil)))) (tt := tTest (tOp rEq (tVar 15) (tVar 9))) (te := tOp (rIxL K) (tVar 5) (tVar 13)) rfl scFi.nd rfl rfl (sw_true rfl rfl rfl (by decide +kernel)) (pi_list (pe_ix ix_list (pv 3) (pe_int) (fun _ _ => rfl))) (blkOk_by (N := ["_law_deck_here", "_law_instance", "_law_numbers", "_law_facts_here", "_law_capacities", "_law_vector", "_law_left", "_law_group", "_law_first", "_law_reserve", "_law_more", "_law_used", "_law_post", "_law_other", "_law_one", "_law_spot"]) (sc := defScope sFi) (by decide +kernel)) (fun _ _ _ _ _ => pg_tup rfl (pgs_cons (pg_name (i := 13) scFi.nd rfl (.inl rfl)) (pgs_cons (pg_name (i := 14) scFi.nd rfl (.inl rfl)) (pgs_cons (pg_name (i := 15) scFi.nd rfl (.inl rfl)) pgs_nil)))) (fun _ _ _ _ _ => pts_one (pt_cmpR op_eq (pv 15) (pv 9) (nomark _))) (fun _ _ _ _ _ => pe_ix ix_list (pv 5) (pv 13) (fun _ _ => rfl)))
          (pss_one (ps_asg (pe_callB (call_min2 rfl) (by rfl) m_min (by decide +kernel) (pa_cons (pe_op op_pow (pe_int) (pe_int)) (pa_cons (pe_callB (call_max2 rfl) (by rfl) m_max (by decide +kernel) (pa_cons (pe_ix ix_list (pv 4) (pv 9) (fun _ _ => rfl)) (pa_cons (pe_op op_add (pe_ix ix_list (pe_ix ix_list (pv 3) (pe_int) (fun _ _ => rfl)) (pv 9) (fun _ _ => rfl)) (pe_callB (cr_sum rfl) (by rfl) m_sum (by decide +kernel) (pa_cons (pv 11) pa_nil))) pa_nil))) pa_nil))) (pg_sub (pv 4) (pv 9) set_list)))) pss_nil)))
      (pss_cons (ps_for PassesOwn.never rfl (pi_range1 (by rfl) m_range (pa_cons (pe_callB call_lenQ (by rfl) m_len PySem.boot_len (pa_cons (pv 4) pa_nil)) pa_nil)) (pg_name (i := 12) scFi.nd rfl (.inl rfl))
        (pss_one (ps_if (pt_cmpR op_eq (pe_ix ix_list (pe_ix ix_list (pv 3) (pe_int) (fun _ _ => rfl)) (pv 12) (fun _ _ => rfl)) (pe_int) (nomark _))
          (pss_one (ps_asg (pe_callB (call_min2 rfl) (by rfl) m_min (by decide +kernel) (pa_cons (pe_op op_pow (pe_int) (pe_int)) (pa_cons (pe_op op_add (pe_ix ix_list (pv 4) (pv 12) (fun _ _ => rfl)) (pe_call GDr (hr.mono (by omega)) (by rfl) gDr FDr.kp bDr .nil pass0 (pa_cons (pv 0) (pa_cons (pe_int) pa_nil)))) pa_nil))) (pg_sub (pv 4) (pv 12) set_list))) pss_nil)))
      (pss_one (ps_ret (pe_lst (pa_cons (pe_tup (pa_cons (pe_callTy call_tupQ (by rfl) m_tuple (by decide +kernel) (pa_cons (pv 4) pa_nil)) (pa_cons (pe_ix ix_tup (pv 1) (pe_int) (fun _ _ => rfl)) pa_nil))) (pa_cons (pe_callTy call_tupQ (by rfl) m_tuple (by decide +kernel) (pa_cons (pv 5) pa_nil)) pa_nil)))))))))))), ?_⟩
    obtain ⟨_, ca, ga, xs, e, hi, hc, hg, hgs⟩ := inst_open hI
    cases e
    have h6 := ok.c6
    have h10 := ok.g10
    have lxs : xs.length = gs.length := by have := DpAll.len hgs; rwa [List.length_map] at this
    have sz := small (n := 100) (by decide)
    refine ⟨.ref i, rfl, i, cs, gs, rfl, hI, ok, fun H1 p d e f cr w ca' rs s1 fp fd0 Fc => ?_⟩
    obtain ⟨eP, eD, eE, eF, eC, eW, hrs, _⟩ := Fc
    have lrs : rs.length ≤ 10 := by have := rowsTo_len cs gs gs.length; have := hrs.1; omega
    -- the three lists
    refine ⟨.ref i, rfl, i, _, 0, .ref ca, rfl, rfl, sqS s1 hi, atI_nat (j := 0) rfl, ca, _, rfl, .inr (sqS s1 hc), fun Ca nCa => ?_⟩
    refine ⟨by decide, fun p0 n0 => ⟨.ref nA, rfl, nA, _, rfl, .inl (SqL.of (sameNew n0 _ _ (sameNew nCa _ _ (s1 _ _ eN)))), p0, _, _, rfl, rfl, upd_same, by omega, ?_, ?_, fun Ve nVe => ?_⟩⟩
    · rw [List.length_map]; omega
    · rw [List.length_map]; show 1 * _ ≤ sizeLine; have := small (n := ns.length) (by omega); simp; omega
    have nVe1 : H1 Ve = none := freeZ ((sameNew (o := .lst (cs.map V.int)) nCa).trans (sameNew (o := .lst [.int 0]) n0)) nVe
    have nAV : Ca ≠ Ve := ne_of_none (upNew n0 upd_same) nVe
    have f2 : Same H1 (upd (upd (upd H1 Ca (.lst (cs.map V.int))) p0 (.lst [.int 0])) Ve (.lst (List.replicate ((List.map V.int ns).length : Int).toNat [V.int 0]).flatten)) := ((sameNew (o := .lst (cs.map V.int)) nCa).trans (sameNew n0)).trans (sameNew nVe)
    have eCa : (upd (upd (upd H1 Ca (.lst (cs.map V.int))) p0 (.lst [.int 0])) Ve (.lst (List.replicate ((List.map V.int ns).length : Int).toNat [V.int 0]).flatten)) Ca = some (.lst (cs.map V.int)) := upNew nVe (upNew n0 upd_same)
    have eVe : (upd (upd (upd H1 Ca (.lst (cs.map V.int))) p0 (.lst [.int 0])) Ve (.lst (List.replicate ((List.map V.int ns).length : Int).toNat [V.int 0]).flatten)) Ve = some (.lst ((zeros gs.length).map V.int)) := by
      rw [upd_same, zeros_V, List.length_map, lN]; rfl
    generalize upd (upd (upd H1 Ca (.lst (cs.map V.int))) p0 (.lst [.int 0])) Ve (.lst (List.replicate ((List.map V.int ns).length : Int).toNat [V.int 0]).flatten) = H2 at f2 eCa eVe ⊢
    have eP2 : ∀ {Hx : Hp}, Same H1 Hx → SqL K Hx p [.ref d, .ref e, .ref f, .ref cr, .ref w, .ref ca'] := fun s => SqL.of (s _ _ eP)
    refine ⟨.ref p, rfl, p, _, 1, .ref e, rfl, rfl, eP2 f2, atI_nat (j := 1) rfl, e, _, rfl, .inl (SqL.of (f2 _ _ eE)), fun Le nLe => ?_⟩
    have nu : Nu H1 Ca Ve Le := ⟨nCa, nVe1, freeZ f2 nLe, nAV, ne_of_none eCa nLe, ne_of_none eVe nLe⟩
    have F0 : F3 H1 Ca Ve Le cs (zeros gs.length) (rExc cs gs) (upd H2 Le (.lst ((rExc cs gs).map V.int))) := ⟨f2.trans (sameNew nLe), upNew nLe eCa, upNew nLe eVe, upd_same⟩
    generalize upd H2 Le (.lst ((rExc cs gs).map V.int)) = H3 at F0 ⊢
    have eNx : ∀ {Hx : Hp}, Same H1 Hx → SqL K Hx nA (ns.map V.int) := fun s => SqL.of (s _ _ (s1 _ _ eN))
    generalize hRR : rowsTo cs gs gs.length = RR at hrs
    -- first loop
    refine ⟨.ref p, rfl, p, _, 4, .ref w, rfl, rfl, eP2 F0.s, atI_nat (j := 4) rfl, w, rfl, ⟨_, SqL.of (F0.s _ _ eW)⟩, for_it (walk_list (K := K) (a := w) (xs := rs))
      (fun j σ Hj => ∃ (y7 y8 y9 : Option V) (B C : List Int), σ = [some (.ref st), some (.ref i), some (.ref nA), some (.ref p), some (.ref Ca), some (.ref Ve), some (.ref Le), y7, y8, y9, none, none, none, none, none, none] ∧ F3 H1 Ca Ve Le cs B C Hj ∧ Fi cs gs B C ∧ ∀ k r, j ≤ k → RR[k]? = some r → B.getD r.1 0 = 0)
      ⟨none, none, none, _, _, rfl, F0, Fi.start ok, fun k r _ _ => zeros_get ..⟩ (fun j σ Hj _ h => by obtain ⟨_, _, _, _, _, _, s, _⟩ := h; exact SqL.of (s.s _ _ eW)) ?_ ?_⟩
    · rintro j v σ Hx Hj hlt ⟨y7, y8, y9, B, C, rfl, Fj, fi, zr⟩ ⟨rfl, hx⟩
      obtain ⟨r0, hr0, hrv⟩ := hrs.at hx
      obtain ⟨T, rfl, hT⟩ := hrv.tk (TupK.of Fj.s)
      have hR2 := hr0
      rw [← hRR] at hR2
      obtain ⟨g, fi0, hgr, hro, ef, hfl, hgl, _, _⟩ := row_open ok hR2
      have z0 := zr j r0 (Nat.le_refl _) hr0
      have lB := fi.lB
      have lC := fi.lC
      have sC := (fi.sm fi0 hfl).1
      have bn := bN r0.1 g hgr
      rw [ef] at hT
      refine ⟨T, _, rfl, hT, rfl, _, _, rfl, _, _, rfl, _, _, rfl, rfl, ?_⟩
      refine ⟨.ref nA, rfl, .int (r0.1 : Nat), rfl, nA, _, r0.1, .int (ns.getD r0.1 0), rfl, rfl, eNx Fj.s, atI_nat (atD (by omega)), .ref Le, rfl, .int (fi0 : Nat), rfl, Le, _, fi0, .int (C.getD fi0 0), rfl, rfl, SqL.of Fj.c, atI_nat (atD (by omega)), _, _, rfl, .ref Ve, rfl, .int (r0.1 : Nat), rfl, Ve, _, _, r0.1, rfl, rfl, Fj.b, ixN_nat (by rw [List.length_map]; omega), ?_⟩
      rw [← List.map_set]
      have hb : ∃ b, (if C.getD fi0 0 < ns.getD r0.1 0 then C.getD fi0 0 else ns.getD r0.1 0) = b ∧ 0 ≤ b ∧ b ≤ g.2 ∧ b ≤ C.getD fi0 0 := ⟨_, rfl, by split <;> omega, by split <;> omega, by split <;> omega⟩
      obtain ⟨b, eb, b1, b2, b3⟩ := hb
      rw [eb]
      have F1 := Fj.setB nu (B.set r0.1 b)
      have hgB : (B.set r0.1 b).getD r0.1 0 = b := by rw [set_get (by omega), if_pos rfl]
      have hat : ((B.set r0.1 b).map V.int)[r0.1]? = some (.int b) := by rw [atD (by rw [List.length_set]; omega), hgB]
      refine ⟨.ref Le, rfl, .int (fi0 : Nat), rfl, Le, _, fi0, .int (C.getD fi0 0), rfl, rfl, SqL.of F1.c, atI_nat (atD (by omega)), .ref Ve, rfl, .int (r0.1 : Nat), rfl, Ve, _, r0.1, .int b, rfl, rfl, SqL.of F1.b, atI_nat hat, _, _, rfl, rfl, .ref Le, rfl, .int (fi0 : Nat), rfl, Le, _, _, fi0, rfl, rfl, F1.c, ixN_nat (by rw [List.length_map]; omega), ?_⟩
      rw [← List.map_set]
      have st1 := fi.step hgr hro hfl b1 b2 (by rw [z0]; omega)
      rw [z0, Int.sub_zero] at st1
      refine ⟨_, _, _, _, _, rfl, F1.setC nu _, st1, fun k r hk hr => ?_⟩
      rw [set_get (by omega)]
      split
      · rename_i e2
        rw [← hRR] at hr
        have := rows_inj hr hR2 e2
        omega
      · exact zr k r (by omega) hr
    rintro σ H4 ⟨y7, y8, y9, B0, C0, rfl, F4, fi4, _⟩
    -- second loop
    refine ⟨.ref p, rfl, p, _, 4, .ref w, rfl, rfl, eP2 F4.s, atI_nat (j := 4) rfl, w, rfl, ⟨_, SqL.of (F4.s _ _ eW)⟩, for_it (walk_list (K := K) (a := w) (xs := rs))
      (fun j σ Hj => ∃ (y7 y8 y9 y10 : Option V) (B C : List Int), σ = [some (.ref st), some (.ref i), some (.ref nA), some (.ref p), some (.ref Ca), some (.ref Ve), some (.ref Le), y7, y8, y9, y10, none, none, none, none, none] ∧ F3 H1 Ca Ve Le cs B C Hj ∧ Fi cs gs B C ∧ ∀ k r g, k < j → RR[k]? = some r → gs[r.1]? = some g → C.getD r.2.1.toNat 0 = 0 ∨ B.getD r.1 0 = g.2)
      ⟨_, _, _, none, _, _, rfl, F4, fi4, fun k r g hk => absurd hk (by omega)⟩ (fun j σ Hj _ h => by obtain ⟨_, _, _, _, _, _, _, s, _⟩ := h; exact SqL.of (s.s _ _ eW)) ?_ ?_⟩
    · rintro j v σ Hx Hj hlt ⟨y7, y8, y9, y10, B, C, rfl, Fj, fi, fu⟩ ⟨rfl, hx⟩
      obtain ⟨r0, hr0, hrv⟩ := hrs.at hx
      obtain ⟨T, rfl, hT⟩ := hrv.tk (TupK.of Fj.s)
      have hR2 := hr0
      rw [← hRR] at hR2
      obtain ⟨g, fi0, hgr, hro, ef, hfl, hgl, _, _⟩ := row_open ok hR2
      obtain ⟨gA, pA, hxg, hG, hP⟩ := grp_at hgs hgr
      have lB := fi.lB
      have lC := fi.lC
      have sC := (fi.sm fi0 hfl).1
      have bB := fi.bd r0.1 g hgr
      have s1j := s1.trans Fj.s
      rw [ef] at hT
      refine ⟨T, _, rfl, hT, rfl, _, _, rfl, _, _, rfl, _, _, rfl, rfl, ?_⟩
      refine ⟨.ref i, rfl, i, _, 1, .ref ga, rfl, rfl, sqS s1j hi, atI_nat (j := 1) rfl, .int (r0.1 : Nat), rfl, ga, _, r0.1, .ref gA, rfl, rfl, sqS s1j hg, atI_nat hxg, gA, _, 1, _, rfl, rfl, sqS s1j hG, atI_nat (j := 1) rfl, .ref Ve, rfl, .int (r0.1 : Nat), rfl, Ve, _, r0.1, .int (B.getD r0.1 0), rfl, rfl, SqL.of Fj.b, atI_nat (atD (by omega)), _, _, rfl, rfl, .ref Le, rfl, .int (fi0 : Nat), rfl, Le, _, fi0, .int (C.getD fi0 0), rfl, rfl, SqL.of Fj.c, atI_nat (atD (by omega)), _, _, rfl, ?_⟩
      have hb : ∃ mo, (if C.getD fi0 0 < g.2 - B.getD r0.1 0 then C.getD fi0 0 else g.2 - B.getD r0.1 0) = mo ∧ 0 ≤ mo ∧ mo ≤ g.2 - B.getD r0.1 0 ∧ mo ≤ C.getD fi0 0 ∧ (mo = C.getD fi0 0 ∨ mo = g.2 - B.getD r0.1 0) := ⟨_, rfl, by split <;> omega, by split <;> omega, by split <;> omega, by split <;> omega⟩
      obtain ⟨mo, eb, b1, b2, b3, b4⟩ := hb
      rw [eb]
      refine ⟨.ref Ve, rfl, .int (r0.1 : Nat), rfl, Ve, _, r0.1, .int (B.getD r0.1 0), rfl, rfl, SqL.of Fj.b, atI_nat (atD (by omega)), .int mo, rfl, _, _, rfl, rfl, .ref Ve, rfl, .int (r0.1 : Nat), rfl, Ve, _, _, r0.1, rfl, rfl, Fj.b, ixN_nat (by rw [List.length_map]; omega), ?_⟩
      rw [← List.map_set]
      have F1 := Fj.setB nu (B.set r0.1 (B.getD r0.1 0 + mo))
      refine ⟨.ref Le, rfl, .int (fi0 : Nat), rfl, Le, _, fi0, .int (C.getD fi0 0), rfl, rfl, SqL.of F1.c, atI_nat (atD (by omega)), .int mo, rfl, _, _, rfl, rfl, .ref Le, rfl, .int (fi0 : Nat), rfl, Le, _, _, fi0, rfl, rfl, F1.c, ixN_nat (by rw [List.length_map]; omega), ?_⟩
      rw [← List.map_set]
      have st1 := fi.step hgr hro hfl (b := B.getD r0.1 0 + mo) (by omega) (by omega) (by omega)
      rw [show B.getD r0.1 0 + mo - B.getD r0.1 0 = mo by omega] at st1
      refine ⟨_, _, _, _, _, _, rfl, F1.setC nu _, st1, fun k r g' hk hr hg' => ?_⟩
      rw [set_get (by omega), set_get (by omega)]
      by_cases ek : k = j
      · subst ek
        rw [hr0] at hr
        cases hr
        rw [hgr] at hg'
        cases hg'
        rw [ef, Int.toNat_natCast, if_pos rfl, if_pos rfl]
        omega
      · have e1 : ¬ r.1 = r0.1 := fun e2 => by
          rw [← hRR] at hr
          exact ek (rows_inj hr hR2 e2)
        rw [if_neg e1]
        rcases fu k r g' (by omega) hr hg' with z | z
        · left
          split
          · rename_i e2; rw [e2] at z; omega
          · exact z
        · exact .inr z
    rintro σ H5 ⟨y7, y8, y9, y10, B, C, rfl, F5, fi5, fu5⟩
    have hS1 := fi5.full ok (fun j g f o hg hr => by
      have hm := rows_full (cs := cs) hg hr
      obtain ⟨k, hk, ek⟩ := List.mem_iff_getElem.mp hm
      have hk2 : RR[k]? = some (j, (f : Int), o, g.2) := by rw [← hRR, List.getElem?_eq_getElem hk, ek]
      have := fu5 k _ g (by have := hrs.1; rw [← hRR] at this; omega) hk2 hg
      simpa using this)
    have lB := fi5.lB
    -- third loop
    refine ⟨.ref p, rfl, p, _, 4, .ref w, rfl, rfl, eP2 F5.s, atI_nat (j := 4) rfl, w, rfl, ⟨_, SqL.of (F5.s _ _ eW)⟩, for_it (walk_list (K := K) (a := w) (xs := rs))
      (fun j σ Hj => ∃ (y7 y8 y9 y10 y11 : Option V) (A : List Int), σ = [some (.ref st), some (.ref i), some (.ref nA), some (.ref p), some (.ref Ca), some (.ref Ve), some (.ref Le), y7, y8, y9, y10, y11, none, none, none, none] ∧ F3 H1 Ca Ve Le A B C Hj ∧ Ai cs gs B A ∧ ∀ k r (q : Nat), k < j → RR[k]? = some r → r.2.2.1 = some (q : Int) → Met cs gs B A q)
      ⟨_, _, _, _, none, _, rfl, F5, Ai.start ok B, fun k r q hk => absurd hk (by omega)⟩ (fun j σ Hj _ h => by obtain ⟨_, _, _, _, _, _, _, s, _⟩ := h; exact SqL.of (s.s _ _ eW)) ?_ ?_⟩
    · rintro j v σ Hx Hj hlt ⟨y7, y8, y9, y10, y11, A, rfl, Fj, ai, me⟩ ⟨rfl, hx⟩
      obtain ⟨r0, hr0, hrv⟩ := hrs.at hx
      obtain ⟨T, rfl, hT⟩ := hrv.tk (TupK.of Fj.s)
      have hR2 := hr0
      rw [← hRR] at hR2
      obtain ⟨g, fi0, hgr, hro, ef, hfl, hgl, _, hoq⟩ := row_open ok hR2
      refine ⟨T, _, rfl, hT, rfl, _, _, rfl, _, _, rfl, _, _, rfl, rfl, ?_⟩
      cases ho : r0.2.2.1 with
      | none =>
        refine ⟨.non, rfl, _, rfl, ?_⟩
        refine iteF ⟨_, _, _, _, _, _, rfl, Fj, ai, fun k r q hk hr hq => ?_⟩
        by_cases ek : k = j
        · subst ek; rw [hr0] at hr; cases hr; rw [ho] at hq; cases hq
        · exact me k r q (by omega) hr hq
      | some y =>
        obtain ⟨qn, rfl, hqn, hsp⟩ := hoq y ho
        refine ⟨.int (qn : Nat), rfl, _, rfl, ?_⟩
        refine iteT ?_
        refine ⟨.ref p, rfl, p, _, 4, .ref w, rfl, rfl, eP2 Fj.s, atI_nat (j := 4) rfl, w, rfl, ⟨_, SqL.of (Fj.s _ _ eW)⟩, fun Us nUs => lc_it (walk_list (K := K) (a := w) (xs := rs))
          (LcP Hj Us RR (fun r => if r.2.2.1 = some (qn : Int) then some (.int (B.getD r.1 0)) else none)) (.start nUs) (fun m Hm _ h => SqL.of (h.1 _ _ (Fj.s _ _ eW))) ?_ ?_⟩
        · rintro m x Hm Hn hm hL ⟨rfl, hxm⟩
          obtain ⟨r2, hr2, hrv2⟩ := hrs.at hxm
          obtain ⟨T2, rfl, hT2⟩ := hrv2.tk (TupK.of (Fj.s.trans hL.1))
          have hR3 := hr2
          rw [← hRR] at hR3
          obtain ⟨_, _, _, _, _, _, hg2, _, _⟩ := row_open ok hR3
          have Fm := Fj.same hL.1
          refine ⟨T2, _, rfl, hT2, rfl, _, _, rfl, _, _, rfl, _, _, rfl, rfl, rfl, ?_⟩
          have h1p : r2.2.2.1 = some (qn : Int) → decide (oV r2.2.2.1 = V.int (qn : Nat)) = true := fun z => by rw [z]; exact decide_eq_true rfl
          have h1q : decide (oV r2.2.2.1 = V.int (qn : Nat)) = true → r2.2.2.1 = some (qn : Int) := fun z => by
            have z := of_decide_eq_true z
            cases hh : r2.2.2.1 with
            | none => rw [hh] at z; cases z
            | some y => rw [hh] at z; exact congrArg some (V.int.inj z)
          refine ⟨oV r2.2.2.1, rfl, .int (qn : Nat), rfl, by cases r2.2.2.1 <;> rfl, _, rfl, ?_⟩
          refine ite2 (fun h1 => ?_) (fun h1 => ?_)
          · have h1' : r2.2.2.1 = some (qn : Int) := h1q h1
            refine ⟨.ref Ve, rfl, .int (r2.1 : Nat), rfl, Ve, _, r2.1, .int (B.getD r2.1 0), rfl, rfl, SqL.of Fm.b, atI_nat (atD (by omega)), hL.yes nUs (Same.refl _) hr2 (by rw [if_pos h1']) (by omega)⟩
          · have h1' : ¬ r2.2.2.1 = some (qn : Int) := fun z => h1 (h1p z)
            exact hL.no (Same.refl _) hr2 (by rw [if_neg h1'])
        rintro Hm hL
        have eU := hL.done (by rw [hrs.1]; exact Nat.le_refl _)
        rw [show RR.filterMap (fun r => if r.2.2.1 = some (qn : Int) then some (V.int (B.getD r.1 0)) else none) = (RR.filterMap (fun r => if r.2.2.1 = some (qn : Int) then some (B.getD r.1 0) else none)).map V.int by
          rw [List.map_filterMap]
          refine fm_cong fun r _ => ?_
          split <;> rfl] at eU
        have hsum : (RR.filterMap (fun r => if r.2.2.1 = some (qn : Int) then some (B.getD r.1 0) else none)).sum = S2 cs gs B qn := by rw [← hRR]; exact rows_S2 lB qn
        generalize RR.filterMap (fun r => if r.2.2.1 = some (qn : Int) then some (B.getD r.1 0) else none) = us at eU hsum
        have Fm := Fj.same hL.1
        have lA := ai.lA
        refine ⟨_, _, rfl, rfl, ⟨by decide, by decide, by decide⟩, ?_⟩
        refine ⟨.ref Ca, rfl, .int (qn : Nat), rfl, Ca, _, qn, .int (A.getD qn 0), rfl, rfl, SqL.of Fm.a, atI_nat (atD (by omega)), ?_⟩
        refine ⟨.ref p, rfl, p, _, 0, .ref d, rfl, rfl, eP2 Fm.s, atI_nat (j := 0) rfl, .int (qn : Nat), rfl, d, _, qn, .int ((rDem cs gs).getD qn 0), rfl, rfl, SqL.of (Fm.s _ _ eD), atI_nat (atD (by rw [rDem_len]; omega)), .ref Us, rfl, Us, us, rfl, SqL.of eU, _, _, rfl, rfl, _, _, rfl, _, _, rfl, .ref Ca, rfl, .int (qn : Nat), rfl, Ca, _, _, qn, rfl, rfl, Fm.a, ixN_nat (by rw [List.length_map]; omega), ?_⟩
        rw [← List.map_set, hsum]
        have hA0 := ai.ge qn hqn
        have hro := room_ok ok fi5 sml hsp
        rw [show (10 : Int) ^ (12 : Int).toNat = 10 ^ 12 from rfl]
        have hb : ∃ x, (if (if (rDem cs gs).getD qn 0 + S2 cs gs B qn > A.getD qn 0 then (rDem cs gs).getD qn 0 + S2 cs gs B qn else A.getD qn 0) < (10 : Int) ^ 12 then (if (rDem cs gs).getD qn 0 + S2 cs gs B qn > A.getD qn 0 then (rDem cs gs).getD qn 0 + S2 cs gs B qn else A.getD qn 0) else (10 : Int) ^ 12) = x ∧ A.getD qn 0 ≤ x ∧ x ≤ 10 ^ 12 ∧ (rDem cs gs).getD qn 0 + S2 cs gs B qn ≤ x := ⟨_, rfl, by (repeat' split) <;> omega, by (repeat' split) <;> omega, by (repeat' split) <;> omega⟩
        obtain ⟨x, ex, x1, x2, x3⟩ := hb
        rw [ex]
        have gr := ai.grow hqn hsp x1 x2
        refine ⟨_, _, _, _, _, _, rfl, Fm.setA nu _, gr.1, fun k r q hk hr hq => ?_⟩
        by_cases ek : k = j
        · subst ek; rw [hr0] at hr; cases hr; rw [ho] at hq
          have e2 : qn = q := by have := Option.some.inj hq; omega
          subst e2
          unfold Met
          rw [set_get (by omega), if_pos rfl]
          exact x3
        · exact gr.2 q (me k r q (by omega) hr hq)
    rintro σ H6 ⟨y7, y8, y9, y10, y11, A0, rfl, F6, ai6, me6⟩
    have met6 : ∀ (j : Nat) (g : Gp) (f : Int) (q : Nat), gs[j]? = some g → routeOf cs gs g = some (f, some (q : Int)) → Met cs gs B A0 q := fun j g f q hg hr => by
      have hm := rows_full (cs := cs) hg hr
      obtain ⟨k, hk, ek⟩ := List.mem_iff_getElem.mp hm
      have hk2 : RR[k]? = some (j, f, some (q : Int), g.2) := by rw [← hRR, List.getElem?_eq_getElem hk, ek]
      exact me6 k _ q (by have := hrs.1; rw [← hRR] at this; omega) hk2 rfl
    have s06 := s1.trans F6.s
    have fCa : H Ca = none := freeZ s1 nu.a
    have fVe : H Ve = none := freeZ s1 nu.b
    have oC := D0.off fCa
    have oV' := D0.off fVe
    have oD := D0.off fd0.1
    have oP' := D0.off fp
    have eD6 := F6.s _ _ eD
    have nCD : d ≠ Ca := ne_of_none eD nu.a
    have nCV : Ve ≠ Ca := nu.ab.symm
    have nCp : p ≠ Ca := ne_of_none eP nu.a
    have eP6 := F6.s _ _ eP
    refine ⟨.ref Ca, rfl, Ca, _, rfl, .inl (SqL.of F6.a), _, rfl, by rw [List.length_map, ai6.lA]; omega, by rw [List.length_map, ai6.lA]; omega, for_it (walk_range (lo := 0) (n := (((A0.map V.int).length : Nat) : Int).toNat))
      (fun j σ Hj => ∃ (y12 : Option V) (tj : Nat) (A : List Int), σ = [some (.ref st), some (.ref i), some (.ref nA), some (.ref p), some (.ref Ca), some (.ref Ve), some (.ref Le), y7, y8, y9, y10, y11, y12, none, none, none] ∧ DU Hj st c r tj ∧ tj ≤ t + j ∧ Ext st r H Hj ∧ Hj p = some (.lst [.ref d, .ref e, .ref f, .ref cr, .ref w, .ref ca']) ∧ Hj d = some (.lst ((rDem cs gs).map V.int)) ∧ Hj Ve = some (.lst (B.map V.int)) ∧ Hj Ca = some (.lst (A.map V.int)) ∧ Ai cs gs B A ∧ ∀ q, Met cs gs B A0 q → Met cs gs B A q)
      ⟨none, t, A0, rfl, D0.same s06, by omega, Ext.of s06, eP6, eD6, F6.b, F6.a, ai6, fun q h => h⟩ (fun _ _ _ _ _ => trivial) ?_ ?_⟩
    · rintro j v σ Hx Hj hlt ⟨y12, tj, A, rfl, Dj, htj, xj, ePj, eDj, eVj, eAj, aj, mj⟩ ⟨rfl, rfl⟩
      rw [List.length_map] at hlt
      have lA0 := ai6.lA
      have lA := aj.lA
      have hj : j < cs.length := by omega
      rw [show (fun i : Nat => V.int (0 + (i : Int))) = fun i : Nat => V.int (i : Int) from funext fun i => by rw [Int.zero_add]]
      refine ⟨.ref p, rfl, p, _, 0, .ref d, rfl, rfl, SqL.of ePj, atI_nat (j := 0) rfl, .int (j : Nat), rfl, d, _, j, .int ((rDem cs gs).getD j 0), rfl, rfl, SqL.of eDj, atI_nat (atD (by rw [rDem_len]; omega)), rfl, _, rfl, ?_⟩
      refine ite2 (fun h1 => ?_) (fun h1 => ?_)
      · refine ⟨_, _, rfl, rfl, ⟨by decide, by decide, by decide⟩, .ref Ca, rfl, .int (j : Nat), rfl, Ca, _, j, .int (A.getD j 0), rfl, rfl, SqL.of eAj, atI_nat (atD (by omega)), .ref st, rfl, st, c, r, tj, 3, rfl, Dj, by omega, by decide, by decide, fun Ha z hz0 hz1 Da Xa => ?_⟩
        have eAa := Xa _ _ eAj oC.1 oC.2.2
        refine ⟨_, _, rfl, rfl, _, _, rfl, .ref Ca, rfl, .int (j : Nat), rfl, Ca, _, _, j, rfl, rfl, eAa, ixN_nat (by rw [List.length_map]; omega), ?_⟩
        rw [← List.map_set]
        have hA0 := aj.ge j hj
        have hd0 : (rDem cs gs).getD j 0 = 0 := by simpa using h1
        have hsp : 0 < spOf cs gs (j : Int) := by
          have e1 : spOf cs gs (j : Int) = cs.getD j 0 - (rDem cs gs).getD j 0 := rfl
          have := ok.cb cs[j] (List.getElem_mem hj)
          rw [e1, hd0, List.getD_eq_getElem?_getD, List.getElem?_eq_getElem hj]
          simp only [Option.getD_some]; omega
        rw [show (10 : Int) ^ (12 : Int).toNat = 10 ^ 12 from rfl]
        have hb : ∃ x, (if A.getD j 0 + z < (10 : Int) ^ 12 then A.getD j 0 + z else (10 : Int) ^ 12) = x ∧ A.getD j 0 ≤ x ∧ x ≤ 10 ^ 12 := ⟨_, rfl, by split <;> omega, by split <;> omega⟩
        obtain ⟨x, ex, x1, x2⟩ := hb
        rw [ex]
        have gr := aj.grow hj hsp x1 x2
        exact ⟨_, tj + 1, _, rfl, Da.put oC, by omega, ExtPut (xj.trans Xa) fCa, by rw [upd_ne nCp]; exact Xa _ _ ePj oP'.1 oP'.2.2, by rw [upd_ne nCD]; exact Xa _ _ eDj oD.1 oD.2.2, by rw [upd_ne nCV]; exact Xa _ _ eVj oV'.1 oV'.2.2, upd_same, gr.1, fun q h => gr.2 q (mj q h)⟩
      · exact ⟨_, tj, A, rfl, Dj, by omega, xj, ePj, eDj, eVj, eAj, aj, mj⟩
    · rintro σ Hx ⟨y12, tj, A, rfl, Dj, htj, xj, ePj, eDj, eVj, eAj, aj, mj⟩
      rw [List.length_map, ai6.lA] at htj
      have tkj := D0.tup xj
      refine ⟨.ref Ca, rfl, Ca, _, rfl, .inl ⟨SqL.of eAj, fun Tc nTc => ?_⟩⟩
      have z1 := sameNew (o := .tup (A.map V.int)) nTc
      refine ⟨.ref i, rfl, i, _, 1, .ref ga, rfl, rfl, (TupK.of z1).sq (tkj.sq hi), atI_nat (j := 1) rfl, (show (2 : Nat) ≤ sizeLine by decide), fun I2 nI2 => ?_⟩
      have z2 := z1.trans (sameNew (o := .tup [.ref Tc, .ref ga]) nI2)
      refine ⟨.ref Ve, rfl, Ve, _, rfl, .inl ⟨SqL.of (z2 _ _ eVj), fun Tv nTv => ⟨(show (2 : Nat) ≤ sizeLine by decide), fun p' np => ?_⟩⟩⟩
      have z4' := sameNew (o := .lst [.ref I2, .ref Tv]) np
      have z34 := (sameNew (o := .tup (B.map V.int)) nTv).trans z4'
      have z4 := z2.trans z34
      refine q _ p' I2 Tv tj A B (Dj.same z4) (by omega) (xj.trans (Ext.of z4)) (SqL.of upd_same) ?_ (aj.ok ok) ((TupK.of z4').sq (SqT.of upd_same)) (fit_vec ok fi5 hS1 aj fun j g f q hg hr => mj q (met6 j g f q hg hr))
      exact .tup ((TupK.of z34).sq (SqT.of upd_same)) (.cons (dI_sq ((TupK.of ((sameNew nI2).trans z34)).sq (SqT.of upd_same))) (.cons (.tup ((tkj.trans (TupK.of z4)).sq hg) ((tkj.trans (TupK.of z4)).dpAll _ _ (to_grps _) hgs)) .nil))
end
end Pv

namespace Pv
open PySem PySem.Spec PyProof.Rows L2
abbrev sPl : Stmt := topS 35
theorem scPl : FnScope ["_law_deck_here", "_law_most", "_law_posts", "_law_firsts", "_law_groups", "_law_numbers", "_law_group", "_law_count", "_law_demand", "_law_moved", "_law_order", "_law_number", "_law_post", "_law_capacities", "_law_some", "_law_capacity"] ["_law_deck_here", "_law_most"] (defScope sPl) := ⟨rfl, rfl, rfl, by decide +kernel, rfl, by decide +kernel, by decide +kernel⟩
section
variable {P : Program} {w : World} {K : PySem.W.Frag} {mg : Str → Option Value} {base : Heap}
theorem walk_zipL {K : PySem.W.Frag} {a b : Addr} {xs ys : List V} {n : Nat} (hn : n = min xs.length ys.length) :
    Walk (Itz K a b) n (fun H => SqL K H a xs ∧ SqL K H b ys) (YPair (fun i => xs[i]?) (fun i => ys[i]?)) := by
  subst hn
  constructor
  · rintro i H hi ⟨q1, q2⟩
    have h1 : i < xs.length := by omega
    have h2 : i < ys.length := by omega
    exact ⟨xs, ys, xs[i], ys[i], q1, q2, by simp [h1], by simp [h2]⟩
  · rintro H ⟨q1, q2⟩
    exact ⟨xs, ys, q1, q2, by omega⟩
  · rintro i H v H' _ ⟨q1, q2⟩ ⟨T, x, z, h1, h2, h3, h4, h5⟩
    exact ⟨T, x, z, h1, h2, h3, h4 xs q1, h5 ys q2⟩
theorem NsOk.snoc {gs : List Gp} {ns : List Int} (h : NsOk gs ns) {g : Gp} {z : Int} (h0 : 0 ≤ z) (h1 : z ≤ g.2) : NsOk (gs ++ [g]) (ns ++ [z]) := by
  obtain ⟨l, b⟩ := h
  refine ⟨by simp [l], fun j g' hg' => ?_⟩
  by_cases hj : j < gs.length
  · rw [List.getElem?_append_left hj] at hg'
    have := b j g' hg'
    rw [List.getD_eq_getElem?_getD, List.getElem?_append_left (by omega), ← List.getD_eq_getElem?_getD]
    exact this
  · have hj2 : j = gs.length := by
      have := (List.getElem?_eq_some_iff.mp hg').1
      simp at this; omega
    subst hj2
    rw [List.getElem?_append_right (Nat.le_refl _), Nat.sub_self] at hg'
    cases hg'
    rw [List.getD_eq_getElem?_getD, List.getElem?_append_right (by omega), l, Nat.sub_self]
    exact ⟨h0, h1⟩
def spPl (K : PySem.W.Frag) : Sp := fun vs H Q _ => ∃ (st c r : Addr) (t : Nat) (m : Int), vs = [.ref st, .int m] ∧ DU H st c r t ∧ t + 500 < 900000 ∧ 1 ≤ m ∧ m ≤ 10 ^ 11 ∧
  ∀ (H' : Hp) (p i' v : Addr) (t' : Nat) (cs' xs : List Int) (gs : List Gp), DU H' st c r t' → t' ≤ t + 400 → Ext st r H H' → SqL K H' p [.ref i', .ref v] → Dp K H' (.ref i') (dInst cs' gs) → InsOk cs' gs → SqT K H' v (xs.map V.int) → IsVec cs' gs xs → Q (.ref p) H'
set_option maxHeartbeats 16000000 in
theorem ok_Pl {f fDr fAm fLi fFi : Addr} {fd fdDr fdAm fdLi fdFi : FuncData} (F : Fun K "_law_planned" "_law_planned" sPl f fd)
    (FDr : Fun K "_law_draw" "_law_draw" sDr fDr fdDr) (bDr : Binds K fdDr ["_law_deck_here", "_law_many"] []) (gDr : mg "_law_draw" = some (.ref fDr)) (GDr : FnOk P w K mg base CX0 1 fDr fdDr ["_law_deck_here", "_law_many"] spDraw)
    (FAm : Fun K "_law_amount" "_law_amount" sAm fAm fdAm) (bAm : Binds K fdAm ["_law_deck_here", "_law_most"] []) (gAm : mg "_law_amount" = some (.ref fAm)) (GAm : FnOk P w K mg base CX0 2 fAm fdAm ["_law_deck_here", "_law_most"] spAm)
    (FLi : Fun K "_law_lines" "_law_lines" sLi fLi fdLi) (bLi : Binds K fdLi ["_law_deck_here", "_law_posts"] []) (gLi : mg "_law_lines" = some (.ref fLi)) (GLi : FnOk P w K mg base CX0 3 fLi fdLi ["_law_deck_here", "_law_posts"] (spLi K))
    (FFi : Fun K "_law_fitted" "_law_fitted" sFi fFi fdFi) (bFi : Binds K fdFi ["_law_deck_here", "_law_instance", "_law_numbers"] []) (gFi : mg "_law_fitted" = some (.ref fFi)) (GFi : FnOk P w K mg base CX0 2 fFi fdFi ["_law_deck_here", "_law_instance", "_law_numbers"] (spFi K))
    (m_max : mg "max" = none) (m_range : mg "range" = none) (m_zip : mg "zip" = none) (m_int : mg "int" = none) (m_min : mg "min" = none) (m_tuple : mg "tuple" = none) :
    FnOk P w K mg base CX0 5 f fd ["_law_deck_here", "_law_most"] (spPl K) := by
  refine F.ok scPl (fun vs H Q E h => ?_) (fun cdv A outer s H vs Q E hr h => ?_)
  · obtain ⟨st, c, r, t, m, rfl, _⟩ := h; rfl
  · obtain ⟨st, c, r, t, m, rfl, D0, ht, hm1, hm2, q⟩ := h
    refine ⟨_, pss_cons (ps_set (i := 2) scPl.nd rfl (.inl rfl) (pe_op op_add (pe_int) (pe_call GDr (hr.mono (by omega)) (by rfl) gDr FDr.kp bDr .nil pass0 (pa_cons (pv 0) (pa_cons (pe_int) pa_nil)))))
      (pss_cons (ps_set (i := 3) scPl.nd rfl (.inl rfl) (pe_callB (call_max2 rfl) (by rfl) m_max (by decide +kernel) (pa_cons (pe_int) (pa_cons (pe_op op_fdiv (pv 2) (pe_int)) pa_nil))))
      (pss_cons (ps_par (i := 4) (j := 5) rfl scPl.nd rfl rfl (by decide) rfl rfl (pa_cons (pe_lst (pa_nil)) (pa_cons (pe_lst (pa_nil)) pa_nil)) rfl)
      (pss_cons (ps_for PassesOwn.never rfl (pi_range1 (by rfl) m_range (pa_cons (pe_op op_add (pe_int) (pe_call GDr (hr.mono (by omega)) (by rfl) gDr FDr.kp bDr .nil pass0 (pa_cons (pv 0) (pa_cons (pe_int) pa_nil)))) pa_nil)) (pg_name (i := 6) scPl.nd rfl (.inl rfl))
        (pss_cons (ps_set (i := 7) scPl.nd rfl (.inl rfl) (pe_op op_add (pe_int) (pe_call GAm (hr.mono (by omega)) (by rfl) gAm FAm.kp bAm .nil pass0 (pa_cons (pv 0) (pa_cons (pe_op op_sub (pv 1) (pe_int)) pa_nil)))))
        (pss_cons (ps_expr (pe_bm PySem.F.plainAttrs_list PySem.F.slot_list_append PySem.F.type_list_append mt_append (pv 4) (pa_cons (pe_tup (pa_cons (pe_call GLi (hr.mono (by omega)) (by rfl) gLi FLi.kp bLi .nil pass0 (pa_cons (pv 0) (pa_cons (pv 2) pa_nil))) (pa_cons (pv 7) pa_nil))) pa_nil)))
        (pss_one (ps_expr (pe_bm PySem.F.plainAttrs_list PySem.F.slot_list_append PySem.F.type_list_append mt_append (pv 5) (pa_cons (pe_call GAm (hr.mono (by omega)) (by rfl) gAm FAm.kp bAm .nil pass0 (pa_cons (pv 0) (pa_cons (pv 7) pa_nil))) pa_nil)))))))
      (pss_cons (ps_par (i := 8) (j := 9) rfl scPl.nd rfl rfl (by decide) rfl rfl (pa_cons (pe_op op_rep (pe_lst (pa_cons (pe_int) pa_nil)) (pv 2)) (pa_cons (pe_op op_rep (pe_lst (pa_cons (pe_int) pa_nil)) (pv 2)) pa_nil)) rfl)
      (pss_cons (ps_for PassesOwn.never rfl (RZ.pi_zipA (by rfl) m_zip (pa_cons (pv 4) (pa_cons (pv 5) pa_nil))) (pg_tup rfl (pgs_cons (pg_tup rfl (pgs_cons (pg_name (i := 10) scPl.nd rfl (.inl rfl)) (pgs_cons (pg_name (i := 7) scPl.nd rfl (.inl rfl)) pgs_nil))) (pgs_cons (pg_name (i := 11) scPl.nd rfl (.inl rfl)) pgs_nil)))
        (pss_one (ps_for PassesOwn.never rfl (pi_tup (pe_slice sl_tupA (pv 10) po_none (po_some (pe_int)))) (pg_name (i := 12) scPl.nd rfl (.inl rfl))
          (pss_cons (ps_asg (pe_op op_add (pe_ix ix_list (pv 8) (pv 12) (fun _ _ => rfl)) (pv 7)) (pg_sub (pv 8) (pv 12) set_list))
          (pss_one (ps_asg (pe_op op_add (pe_ix ix_list (pv 9) (pv 12) (fun _ _ => rfl)) (pv 11)) (pg_sub (pv 9) (pv 12) set_list)))))))
      (pss_cons (ps_set (i := 13) scPl.nd rfl (.inl rfl) (pe_lst (pa_nil)))
      (pss_cons (ps_for PassesOwn.never rfl (pi_range1 (by rfl) m_range (pa_cons (pv 2) pa_nil)) (pg_name (i := 12) scPl.nd rfl (.inl rfl))
        (pss_cons (ps_set (i := 14) scPl.nd rfl (.inl rfl) (pe_op op_sub (pe_ix ix_list (pv 8) (pv 12) (fun _ _ => rfl)) (pe_ix ix_list (pv 9) (pv 12) (fun _ _ => rfl))))
        (pss_one (ps_expr (pe_bm PySem.F.plainAttrs_list PySem.F.slot_list_append PySem.F.type_list_append mt_append (pv 13) (pa_cons (pe_ix ix_list (pe_lst (pa_cons (pe_callB (call_max2 rfl) (by rfl) m_max (by decide +kernel) (pa_cons (pe_int) (pa_cons (pv 14) pa_nil))) (pa_cons (pe_op op_add (pe_int) (pe_call GDr (hr.mono (by omega)) (by rfl) gDr FDr.kp bDr .nil pass0 (pa_cons (pv 0) (pa_cons (pe_int) pa_nil)))) pa_nil))) (pe_callTy call_int1 (by rfl) m_int (by decide +kernel) (pa_cons (pe_cmpR op_eq (pe_ix ix_list (pv 8) (pv 12) (fun _ _ => rfl)) (pe_int) (nomark _)) pa_nil)) (fun _ _ => rfl)) pa_nil))))))
      (pss_cons (ps_setLc (i := 13) (own := [("_law_capacity", 15)]) (g := gName 15) (tt := tYes) (te := tCB (fun xs H Q => ∃ i j, xs = [.int i, .int j] ∧ Q (.int (if j < i then j else i)) H) (tCons (tVar 15) (tCons (tOp (rI CPow fun i j => .int (i ^ j.toNat)) (tC (.int 10)) (tC (.int 12))) tNil))) rfl scPl.nd rfl rfl (sw_true rfl rfl rfl (by decide +kernel)) (pi_list (pv 13)) (blkOk_by (N := ["_law_deck_here", "_law_most", "_law_posts", "_law_firsts", "_law_groups", "_law_numbers", "_law_group", "_law_count", "_law_demand", "_law_moved", "_law_order", "_law_number", "_law_post", "_law_capacities", "_law_some", "_law_capacity"]) (sc := defScope sPl) (by decide +kernel)) (fun _ _ _ _ _ => pg_name (i := 15) scPl.nd rfl (.inl rfl)) (fun _ _ _ _ _ => pts_nil) (fun _ _ _ _ _ => pe_callB (call_min2 rfl) (by rfl) m_min (by decide +kernel) (pa_cons (pv 15) (pa_cons (pe_op op_pow (pe_int) (pe_int)) pa_nil))))
      (pss_one (ps_ret (pe_call GFi (hr.mono (by omega)) (by rfl) gFi FFi.kp bFi .nil pass0 (pa_cons (pv 0) (pa_cons (pe_tup (pa_cons (pe_callTy call_tupQ (by rfl) m_tuple (by decide +kernel) (pa_cons (pv 13) pa_nil)) (pa_cons (pe_callTy call_tupQ (by rfl) m_tuple (by decide +kernel) (pa_cons (pv 4) pa_nil)) pa_nil))) (pa_cons (pv 5) pa_nil)))))))))))))), ?_⟩
    have sz := small (n := 100) (by decide)
    refine ⟨.ref st, rfl, st, c, r, t, 6, rfl, D0, by omega, by decide, by decide, fun H1 n0 h10 h11 D1 X1 => ⟨_, _, rfl, rfl, ?_⟩⟩
    obtain ⟨n, hn⟩ : ∃ n : Nat, 1 + n0 = n := ⟨(1 + n0).toNat, by omega⟩
    dsimp only
    rw [hn]
    have hn1 : 1 ≤ n ∧ n ≤ 6 := by omega
    refine ⟨.int (n : Nat), rfl, _, _, rfl, rfl, ⟨by decide, by decide⟩, _, _, rfl, ?_⟩
    dsimp only
    generalize (if (n : Int) / 2 > 1 then (n : Int) / 2 else 1) = fir
    refine ⟨Nat.zero_le _, fun G nG => ⟨Nat.zero_le _, fun N nN => ⟨_, _, rfl, ?_⟩⟩⟩
    have oG := D1.off nG
    have D2 := (D1.new nG (o := .lst [])).new nN (o := .lst [])
    have oN := (D1.new nG (o := .lst [])).off nN
    have fG : H G = none := D1.nil X1 nG
    have fN : H N = none := (D1.new nG (o := .lst [])).nil (X1.trans (Ext.of (sameNew nG))) nN
    have nGN : G ≠ N := ne_of_none upd_same nN
    have eG : (upd (upd H1 G (.lst [])) N (.lst [])) G = some (.lst []) := upNew nN upd_same
    have eN : (upd (upd H1 G (.lst [])) N (.lst [])) N = some (.lst []) := upd_same
    have X2 : Ext st r H (upd (upd H1 G (.lst [])) N (.lst [])) := X1.trans ((Ext.of (sameNew nG)).trans (Ext.of (sameNew nN)))
    generalize upd (upd H1 G (.lst [])) N (.lst []) = H2 at D2 eG eN X2 ⊢
    refine ⟨.ref st, rfl, st, c, r, t + 1, 10, rfl, D2, by omega, by decide, by decide, fun H3 k hk0 hk1 D3 X3 => ⟨_, _, rfl, rfl, ?_⟩⟩
    have X03 := X2.trans X3
    refine ⟨_, rfl, by omega, by omega, for_it (walk_range (lo := 0) (n := (1 + k).toNat))
      (fun j σ Hj => ∃ (y6 y7 : Option V) (tj : Nat) (vs : List V) (gs : List Gp) (ns : List Int), σ = [some (.ref st), some (.int m), some (.int (n : Nat)), some (.int fir), some (.ref G), some (.ref N), y6, y7, none, none, none, none, none, none, none, none] ∧ DU Hj st c r tj ∧ tj ≤ t + 2 + 26 * j ∧ Ext st r H Hj ∧ Hj G = some (.lst vs) ∧ DpAll K Hj vs (gs.map dGrp) ∧ gs.length = j ∧ Hj N = some (.lst (ns.map V.int)) ∧ ns.length = j ∧ NsOk gs ns ∧ ∀ g ∈ gs, g.1.length ≤ 6 ∧ (∀ p ∈ g.1, 0 ≤ p ∧ p < (n : Int)) ∧ 1 ≤ g.2 ∧ g.2 ≤ 10 ^ 11)
      ⟨none, none, t + 2, [], [], [], rfl, D3, by omega, X03, X3 _ _ eG oG.1 oG.2.2, .nil, rfl, X3 _ _ eN oN.1 oN.2.2, rfl, ⟨rfl, fun j g h => by simp at h⟩, by simp⟩ (fun _ _ _ _ _ => trivial) ?_ ?_⟩
    · rintro j v σ Hx Hj hlt ⟨y6, y7, tj, vs, gs, ns, rfl, Dj, htj, xj, eGj, hvs, lgs, eNj, lns, nso, bgs⟩ ⟨rfl, rfl⟩
      have hj : j < 10 := by omega
      have lvs := DpAll.len hvs
      rw [List.length_map] at lvs
      refine ⟨.ref st, rfl, .int m, rfl, _, _, rfl, rfl, st, c, r, tj, m - 1, rfl, Dj, by omega, by omega, by omega, fun Ha a ha0 ha1 Da Xa => ⟨_, _, rfl, rfl, ?_⟩⟩
      obtain ⟨cn, hcn⟩ : ∃ cn : Int, 1 + a = cn := ⟨_, rfl⟩
      dsimp only
      rw [hcn]
      refine ⟨.ref G, rfl, .inl ⟨rfl, _, SqL.of (Xa _ _ eGj oG.1 oG.2.2)⟩, .ref st, rfl, .int (n : Nat), rfl, st, c, r, _, n, rfl, Da, by omega, hn1.1, hn1.2, fun Hb P tb ps Db htb Xb hP hnd hpb hpl => ⟨.int cn, rfl, (show (2 : Nat) ≤ sizeLine by decide), fun T nT => ?_⟩⟩
      have sT := sameNew (o := .tup [.ref P, .int cn]) nT
      have xab := (Xa.trans Xb).trans (Ext.of sT)
      have eGb := xab _ _ eGj oG.1 oG.2.2
      have eNb := xab _ _ eNj oN.1 oN.2.2
      have tkb := Dj.tup xab
      refine ⟨G, vs, _, rfl, rfl, eGb, Nat.lt_of_le_of_lt (show vs.length ≤ 100 by omega) (small (by decide)), ?_⟩
      have Dc := (Db.same sT).put oG (o := .lst (vs ++ [.ref T]))
      have tkc := TupK.put (o := .lst (vs ++ [.ref T])) eGb
      have xc : Ext st r H (upd (upd Hb T (.tup [.ref P, .int cn])) G (.lst (vs ++ [.ref T]))) := ExtPut (xj.trans xab) fG
      have eNc : (upd (upd Hb T (.tup [.ref P, .int cn])) G (.lst (vs ++ [.ref T]))) N = some (.lst (ns.map V.int)) := by rw [upd_ne nGN.symm]; exact eNb
      have eGc : (upd (upd Hb T (.tup [.ref P, .int cn])) G (.lst (vs ++ [.ref T]))) G = some (.lst (vs ++ [.ref T])) := upd_same
      have hvc : DpAll K (upd (upd Hb T (.tup [.ref P, .int cn])) G (.lst (vs ++ [.ref T]))) (vs ++ [.ref T]) ((gs ++ [(ps, cn)]).map dGrp) := by
        rw [List.map_append]
        refine DpAll.snoc ((tkb.trans tkc).dpAll _ _ (to_grps _) hvs) ?_
        exact .tup (tkc.sq (SqT.of upd_same)) (.cons (dI_sq (tkc.sq ((TupK.of sT).sq hP))) (.cons (.int _) .nil))
      generalize upd (upd Hb T (.tup [.ref P, .int cn])) G (.lst (vs ++ [.ref T])) = Hc at Dc xc eNc eGc hvc ⊢
      refine ⟨.ref N, rfl, .inl ⟨rfl, _, SqL.of eNc⟩, .ref st, rfl, .int cn, rfl, st, c, r, tb, cn, rfl, Dc, by omega, by omega, by omega, fun Hd z hz0 hz1 Dd Xd => ⟨N, ns.map V.int, _, rfl, rfl, Xd _ _ eNc oN.1 oN.2.2, Nat.lt_of_le_of_lt (show (ns.map V.int).length ≤ 100 by rw [List.length_map]; omega) (small (by decide)), ?_⟩⟩
      refine ⟨_, _, tb + 3, vs ++ [.ref T], gs ++ [(ps, cn)], ns ++ [z], rfl, Dd.put oN, by omega, ExtPut (xc.trans Xd) fN, by rw [upd_ne nGN]; exact Xd _ _ eGc oG.1 oG.2.2, ((Dc.tup Xd).trans (TupK.put (Xd _ _ eNc oN.1 oN.2.2))).dpAll _ _ (to_grps _) hvc, by rw [List.length_append]; simp only [List.length_cons, List.length_nil]; omega, by rw [upd_same, List.map_append]; rfl, by rw [List.length_append]; simp only [List.length_cons, List.length_nil]; omega, nso.snoc hz0 (show z ≤ cn by omega), fun g hg => ?_⟩
      rcases List.mem_append.mp hg with h | h
      · exact bgs g h
      · have e : g = (ps, cn) := by simpa using h
        subst e
        exact ⟨hpl, hpb, by show 1 ≤ cn; omega, by show cn ≤ 10 ^ 11; omega⟩
    rintro σ H4 ⟨y6, y7, t4, vs, gs, ns, rfl, D4, ht4, x4, eG4, hvs, lgs, eN4, lns, nso, bgs⟩
    have lvs := DpAll.len hvs
    rw [List.length_map] at lvs
    -- demand and moved
    refine ⟨by decide, fun p0 n0 => ⟨.int (n : Nat), rfl, p0, _, _, rfl, rfl, upd_same, by omega, by omega, ?_, fun Dm nDm => ?_⟩⟩
    · show 1 * _ ≤ sizeLine; have := small (n := n) (by omega); simp; omega
    have s5 := (sameNew (o := .lst [.int 0]) n0).trans (sameNew (o := .lst (List.replicate ((n : Nat) : Int).toNat [V.int 0]).flatten) nDm)
    have eDm : (upd (upd H4 p0 (.lst [.int 0])) Dm (.lst (List.replicate ((n : Nat) : Int).toNat [V.int 0]).flatten)) Dm = some (.lst ((zeros n).map V.int)) := by
      rw [upd_same, zeros_V]; rfl
    have fDm : H4 Dm = none := freeZ (sameNew (o := .lst [.int 0]) n0) nDm
    generalize upd (upd H4 p0 (.lst [.int 0])) Dm (.lst (List.replicate ((n : Nat) : Int).toNat [V.int 0]).flatten) = H5 at s5 eDm ⊢
    refine ⟨by decide, fun p1 n1 => ⟨.int (n : Nat), rfl, p1, _, _, rfl, rfl, upd_same, by omega, by omega, ?_, fun Mv nMv => ⟨_, _, rfl, ?_⟩⟩⟩
    · show 1 * _ ≤ sizeLine; have := small (n := n) (by omega); simp; omega
    have s56 := (sameNew (o := .lst [.int 0]) n1).trans (sameNew (o := .lst (List.replicate ((n : Nat) : Int).toNat [V.int 0]).flatten) nMv)
    have s6 := s5.trans s56
    have eMv : (upd (upd H5 p1 (.lst [.int 0])) Mv (.lst (List.replicate ((n : Nat) : Int).toNat [V.int 0]).flatten)) Mv = some (.lst ((zeros n).map V.int)) := by
      rw [upd_same, zeros_V]; rfl
    have fMv : H4 Mv = none := freeZ (s5.trans (sameNew (o := .lst [.int 0]) n1)) nMv
    have nDMv : Dm ≠ Mv := ne_of_none (upNew n1 eDm) nMv
    have eDm6 := s56 _ _ eDm
    generalize upd (upd H5 p1 (.lst [.int 0])) Mv (.lst (List.replicate ((n : Nat) : Int).toNat [V.int 0]).flatten) = H6 at s56 s6 eMv eDm6 ⊢
    refine ⟨.ref G, rfl, .ref N, rfl, G, N, _, _, rfl, .inl ⟨SqL.of (s6 _ _ eG4), SqL.of (s6 _ _ eN4), for_it (walk_zipL (K := K) (a := G) (b := N) (xs := vs) (ys := ns.map V.int) rfl)
      (fun j σ Hj => ∃ (y7 y10 y11 y12 : Option V) (ds ms : List Int), σ = [some (.ref st), some (.int m), some (.int (n : Nat)), some (.int fir), some (.ref G), some (.ref N), y6, y7, some (.ref Dm), some (.ref Mv), y10, y11, y12, none, none, none] ∧ Same H4 Hj ∧ Hj Dm = some (.lst (ds.map V.int)) ∧ ds.length = n ∧ Hj Mv = some (.lst (ms.map V.int)) ∧ ms.length = n)
      ⟨_, none, none, none, _, _, rfl, s6, eDm6, by simp [zeros], eMv, by simp [zeros]⟩ (fun j σ Hj _ h => by obtain ⟨_, _, _, _, _, _, _, s, _⟩ := h; exact ⟨SqL.of (s _ _ eG4), SqL.of (s _ _ eN4)⟩) ?_ ?_⟩⟩
    · rintro j v σ Hj Hx hlt ⟨y7, y10, y11, y12, ds, ms, rfl, sj, eD, lD, eM, lM⟩ ⟨T, x, y, rfl, nT, rfl, hx, hy⟩
      have hx : vs[j]? = some x := hx
      have hy : (ns.map V.int)[j]? = some y := hy
      rw [List.getElem?_map] at hy
      obtain ⟨nn, hnn, rfl⟩ := Option.map_eq_some_iff.mp hy
      obtain ⟨d, hd, hxd⟩ := DpAll.at hvs hx
      rw [List.getElem?_map] at hd
      obtain ⟨g, hgj, rfl⟩ := Option.map_eq_some_iff.mp hd
      obtain ⟨gA, pA, rfl, hG, hP⟩ := grp_ref hxd
      have gb := bgs g (List.mem_of_getElem? hgj)
      have sT := sj.trans (sameNew (o := .tup [.ref gA, .int nn]) nT)
      refine ⟨T, _, rfl, SqT.of upd_same, rfl, _, _, rfl, gA, _, rfl, sqS sT hG, rfl, _, _, rfl, _, _, rfl, rfl, _, _, rfl, rfl, ?_⟩
      refine ⟨.ref pA, rfl, 1, rfl, take_eq (sqS sT hP) 1 (fun H7 b s7 hb => ⟨b, rfl, ⟨_, hb⟩, for_it (walk_tup (K := K) (a := b) (xs := (g.1.map V.int).take 1))
        (fun k σ Hk => ∃ (y12 : Option V) (ds ms : List Int), σ = [some (.ref st), some (.int m), some (.int (n : Nat)), some (.int fir), some (.ref G), some (.ref N), y6, some (.int g.2), some (.ref Dm), some (.ref Mv), some (.ref pA), some (.int nn), y12, none, none, none] ∧ Same H4 Hk ∧ TupK H7 Hk ∧ Hk Dm = some (.lst (ds.map V.int)) ∧ ds.length = n ∧ Hk Mv = some (.lst (ms.map V.int)) ∧ ms.length = n)
        ⟨_, ds, ms, rfl, sT.trans s7, TupK.refl _, s7 _ _ (upNew nT eD), lD, s7 _ _ (upNew nT eM), lM⟩ (fun k σ Hk _ h => by obtain ⟨_, _, _, _, _, t, _⟩ := h; exact t.sq hb) ?_ ?_⟩)⟩
      · rintro k v σ Hy Hz hltk ⟨y12, ds, ms, rfl, sz', tz, eD, lD, eM, lM⟩ ⟨rfl, hxk⟩
        have hxk : ((g.1.map V.int).take 1)[k]? = some v := hxk
        have hm := List.mem_of_mem_take (List.mem_of_getElem? hxk)
        obtain ⟨pp, hpp, rfl⟩ := List.mem_map.mp hm
        have hpr := gb.2.1 pp hpp
        obtain ⟨pn, rfl⟩ : ∃ pn : Nat, pp = pn := ⟨pp.toNat, by omega⟩
        refine ⟨.ref Dm, rfl, .int (pn : Nat), rfl, Dm, _, pn, .int (ds.getD pn 0), rfl, rfl, SqL.of eD, atI_nat (atD (by omega)), .int g.2, rfl, _, _, rfl, rfl, .ref Dm, rfl, .int (pn : Nat), rfl, Dm, _, _, pn, rfl, rfl, eD, ixN_nat (by rw [List.length_map]; omega), ?_⟩
        rw [← List.map_set]
        have eM1 : (upd Hz Dm (.lst ((ds.set pn (ds.getD pn 0 + g.2)).map V.int))) Mv = some (.lst (ms.map V.int)) := by rw [upd_ne nDMv.symm]; exact eM
        refine ⟨.ref Mv, rfl, .int (pn : Nat), rfl, Mv, _, pn, .int (ms.getD pn 0), rfl, rfl, SqL.of eM1, atI_nat (atD (by omega)), .int nn, rfl, _, _, rfl, rfl, .ref Mv, rfl, .int (pn : Nat), rfl, Mv, _, _, pn, rfl, rfl, eM1, ixN_nat (by rw [List.length_map]; omega), ?_⟩
        rw [← List.map_set]
        exact ⟨_, _, _, rfl, samePut (samePut sz' fDm) fMv, tz.trans ((TupK.put eD).trans (TupK.put eM1)), by rw [upd_ne nDMv]; exact upd_same, by rw [List.length_set]; exact lD, upd_same, by rw [List.length_set]; exact lM⟩
      · rintro σ Hy ⟨y12, ds, ms, rfl, sz', tz, eD, lD, eM, lM⟩
        exact ⟨_, _, _, _, ds, ms, rfl, sz', eD, lD, eM, lM⟩
    rintro σ H7 ⟨y7, y10, y11, y12, ds, ms, rfl, s7, eD7, lD, eM7, lM⟩
    have D7 := D4.same s7
    have x7 := x4.trans (Ext.of s7)
    have eG7 := s7 _ _ eG4
    have eN7 := s7 _ _ eN4
    have hvs7 := (TupK.of s7).dpAll _ _ (to_grps _) hvs
    have oDm := D4.off fDm
    have oMv := D4.off fMv
    -- capacities
    refine ⟨Nat.zero_le _, fun Cp nCp => ?_⟩
    have oCp := D7.off nCp
    have fCp : H Cp = none := D7.nil x7 nCp
    have nDC : Dm ≠ Cp := ne_of_none eD7 nCp
    have nMC : Mv ≠ Cp := ne_of_none eM7 nCp
    refine ⟨.int (n : Nat), rfl, _, rfl, by omega, by omega, for_it (walk_range (lo := 0) (n := ((n : Nat) : Int).toNat))
      (fun j σ Hj => ∃ (y12 y14 : Option V) (tj : Nat) (A : List Int), σ = [some (.ref st), some (.int m), some (.int (n : Nat)), some (.int fir), some (.ref G), some (.ref N), y6, y7, some (.ref Dm), some (.ref Mv), y10, y11, y12, some (.ref Cp), y14, none] ∧ DU Hj st c r tj ∧ tj ≤ t4 + j ∧ Ext st r H7 Hj ∧ Hj Cp = some (.lst (A.map V.int)) ∧ A.length = j ∧ ∀ c ∈ A, 1 ≤ c)
      ⟨y12, none, t4, [], rfl, D7.new nCp, by omega, Ext.of (sameNew nCp), upd_same, rfl, by simp⟩ (fun _ _ _ _ _ => trivial) ?_ ?_⟩
    · rintro j v σ Hx Hj hlt ⟨y12, y14, tj, A, rfl, Dj, htj, xj, eA, lA, bA⟩ ⟨rfl, rfl⟩
      have hj : j < n := by omega
      have eDj := xj _ _ eD7 oDm.1 oDm.2.2
      have eMj := xj _ _ eM7 oMv.1 oMv.2.2
      rw [show (fun i : Nat => V.int (0 + (i : Int))) = fun i : Nat => V.int (i : Int) from funext fun i => by rw [Int.zero_add]]
      refine ⟨.ref Dm, rfl, .int (j : Nat), rfl, Dm, _, j, .int (ds.getD j 0), rfl, rfl, SqL.of eDj, atI_nat (atD (by omega)), .ref Mv, rfl, .int (j : Nat), rfl, Mv, _, j, .int (ms.getD j 0), rfl, rfl, SqL.of eMj, atI_nat (atD (by omega)), _, _, rfl, rfl, ?_⟩
      obtain ⟨so, hso⟩ : ∃ so, ds.getD j 0 - ms.getD j 0 = so := ⟨_, rfl⟩
      dsimp only
      rw [hso]
      refine ⟨.ref Cp, rfl, .inl ⟨rfl, _, SqL.of eA⟩, .int so, rfl, _, _, rfl, .ref st, rfl, st, c, r, tj, 3, rfl, Dj, by omega, by decide, by decide, fun Ha z hz0 hz1 Da Xa => ⟨_, _, rfl, rfl, (show (2 : Nat) ≤ sizeLine by decide), fun Lp nLp => ?_⟩⟩
      have oLp := Da.off nLp
      obtain ⟨v1, hv1, hv1'⟩ : ∃ v1 : Int, (if so > 1 then so else 1) = v1 ∧ 1 ≤ v1 := ⟨_, rfl, by split <;> omega⟩
      dsimp only at nLp ⊢
      rw [hv1]
      have sL := sameNew (o := .lst [.int v1, .int (1 + z)]) nLp
      have xaL := Xa.trans (Ext.of sL)
      have eDa := xaL _ _ eDj oDm.1 oDm.2.2
      refine ⟨.ref Dm, rfl, .int (j : Nat), rfl, Dm, _, j, .int (ds.getD j 0), rfl, rfl, SqL.of eDa, atI_nat (atD (by omega)), rfl, .inr ⟨_, rfl, ?_⟩⟩
      obtain ⟨w1, hat, hw1⟩ : ∃ w1 : Int, atI [V.int v1, V.int (1 + z)] (if decide (V.int (ds.getD j 0) = V.int 0) = true then (1 : Int) else 0) = some (.int w1) ∧ 1 ≤ w1 := by
        by_cases h : decide (V.int (ds.getD j 0) = V.int 0) = true
        · rw [if_pos h]; exact ⟨1 + z, rfl, by omega⟩
        · rw [if_neg h]; exact ⟨v1, rfl, hv1'⟩
      refine ⟨Lp, _, _, _, rfl, rfl, SqL.of upd_same, hat, ?_⟩
      have eAa := xaL _ _ eA oCp.1 oCp.2.2
      refine ⟨Cp, A.map V.int, _, rfl, rfl, eAa, Nat.lt_of_le_of_lt (show (A.map V.int).length ≤ 100 by rw [List.length_map]; omega) (small (by decide)), ?_⟩
      refine ⟨_, _, tj + 1, A ++ [w1], rfl, (Da.same sL).put oCp, by omega, ExtPut (xj.trans xaL) nCp, by rw [upd_same, List.map_append]; rfl, by rw [List.length_append]; simp only [List.length_cons, List.length_nil]; omega, fun x hx => ?_⟩
      rcases List.mem_append.mp hx with h | h
      · exact bA x h
      · have e : x = w1 := by simpa using h
        omega
    rintro σ H8 ⟨y12, y14, t8, A, rfl, D8, ht8, x8, eA, lA, bA⟩
    have lA : A.length = n := by omega
    -- at most 10 ** 12
    refine ⟨.ref Cp, rfl, Cp, rfl, ⟨_, SqL.of eA⟩, fun Cq nCq => lc_it (walk_list (K := K) (a := Cp) (xs := A.map V.int)) (LcP H8 Cq A (fun x => some (.int (if 10 ^ 12 < x then 10 ^ 12 else x)))) (.start nCq) (fun j Hx _ h => SqL.of (h.1 _ _ eA)) ?_ ?_⟩
    · rintro j x Hx Hy hj hL ⟨rfl, hx⟩
      have hx : (A.map V.int)[j]? = some x := hx
      rw [List.getElem?_map] at hx
      obtain ⟨z, hz, rfl⟩ := Option.map_eq_some_iff.mp hx
      have hjl := (List.getElem?_eq_some_iff.mp hz).1
      refine ⟨rfl, .int z, rfl, _, _, rfl, rfl, ⟨by decide, by decide, by decide⟩, _, _, rfl, ?_⟩
      exact hL.yes nCq (Same.refl _) hz rfl (by omega)
    rintro H9 hL
    have eQ := hL.done (by rw [List.length_map]; omega)
    rw [show A.filterMap (fun x => some (V.int (if 10 ^ 12 < x then 10 ^ 12 else x))) = (A.map (fun x => if (10 : Int) ^ 12 < x then 10 ^ 12 else x)).map V.int by rw [fm_map, List.map_map]; rfl] at eQ
    have s9 := hL.1
    have lcs : (A.map (fun x => if (10 : Int) ^ 12 < x then 10 ^ 12 else x)).length = n := by rw [List.length_map]; exact lA
    have bcs : ∀ x ∈ A.map (fun x => if (10 : Int) ^ 12 < x then 10 ^ 12 else x), 1 ≤ x ∧ x ≤ 10 ^ 12 := fun x hx => by
      obtain ⟨y, hy, rfl⟩ := List.mem_map.mp hx
      have := bA y hy
      split <;> omega
    generalize A.map (fun x => if (10 : Int) ^ 12 < x then 10 ^ 12 else x) = cs at eQ lcs bcs
    have x9 := x8.trans (Ext.of s9)
    have D9 := D8.same s9
    have tk9 := D7.tup x9
    refine ⟨.ref st, rfl, .ref Cq, rfl, Cq, _, rfl, .inl ⟨SqL.of eQ, fun Tc nTc => ?_⟩⟩
    have z1 := sameNew (o := .tup (cs.map V.int)) nTc
    have eG9 := x9 _ _ eG7 oG.1 oG.2.2
    have eN9 := x9 _ _ eN7 oN.1 oN.2.2
    refine ⟨.ref G, rfl, G, _, rfl, .inl ⟨SqL.of (z1 _ _ eG9), fun Tg nTg => ⟨(show (2 : Nat) ≤ sizeLine by decide), fun I nI => ?_⟩⟩⟩
    have z23 := (sameNew (o := .tup vs) nTg).trans (sameNew (o := .tup [.ref Tc, .ref Tg]) nI)
    have z3 := z1.trans z23
    refine ⟨.ref N, rfl, st, c, r, I, N, t8, cs, gs, ns, rfl, D9.same z3, by omega, ?_, ⟨by omega, by omega, bcs, by omega, by omega, fun g hg => ?_⟩, fun g hg => (bgs g hg).2.2.2, z3 _ _ eN9, nso, fun H' p i' v t' cs' xs D' ht' X' hp' hI' ok' hv' iv' => ?_⟩
    · exact .tup (SqT.of upd_same) (.cons (dI_sq ((TupK.of z23).sq (SqT.of upd_same))) (.cons (.tup ((TupK.of (sameNew nI)).sq (SqT.of upd_same)) ((tk9.trans (TupK.of z3)).dpAll _ _ (to_grps _) hvs7)) .nil))
    · have := bgs g hg
      rw [lcs]
      exact ⟨this.1, this.2.1, this.2.2.1, by omega⟩
    · exact q H' p i' v t' cs' xs gs D' (by omega) (((x7.trans x9).trans (Ext.of z3)).trans X') hp' hI' ok' hv' iv'
end
end Pv

namespace Pv
open PySem PySem.Spec PyProof.Rows L2
abbrev sLaw : Stmt := topS 50
theorem scLaw : FnScope ["_law_script", "_law_deck_here", "_law_turn", "_law_instance", "_law_vector", "_law_small_here"] ["_law_script"] (defScope sLaw) := ⟨rfl, rfl, rfl, by decide +kernel, rfl, by decide +kernel, by decide +kernel⟩
section
variable {P : Program} {w : World} {K : PySem.W.Frag} {mg : Str → Option Value} {base : Heap}
def spLaw (K : PySem.W.Frag) : Sp := fun vs H Q _ => ∃ (a : Addr) (ns : List Int), vs = [.ref a] ∧ SqL K H a (ns.map V.int) ∧ ns.length ≤ 63 ∧ ∀ H', Q (.bl true) H'
set_option maxHeartbeats 8000000 in
theorem ok_Law {f fSt fPl fRi fSl fVs : Addr} {fd fdSt fdPl fdRi fdSl fdVs : FuncData} (F : Fun K "law" "law" sLaw f fd)
    (FSt : Fun K "_law_deck" "_law_deck" sSt fSt fdSt) (bSt : Binds K fdSt ["_law_script"] []) (gSt : mg "_law_deck" = some (.ref fSt)) (GSt : FnOk P w K mg base CX0 1 fSt fdSt ["_law_script"] (spStart K))
    (FPl : Fun K "_law_planned" "_law_planned" sPl fPl fdPl) (bPl : Binds K fdPl ["_law_deck_here", "_law_most"] []) (gPl : mg "_law_planned" = some (.ref fPl)) (GPl : FnOk P w K mg base CX0 5 fPl fdPl ["_law_deck_here", "_law_most"] (spPl K))
    (FRi : Fun K "_law_right" "_law_right" sRi fRi fdRi) (bRi : Binds K fdRi ["_law_deck_here", "_law_instance", "_law_vector"] []) (gRi : mg "_law_right" = some (.ref fRi)) (GRi : FnG P w K mg base  9 fRi fdRi ["_law_deck_here", "_law_instance", "_law_vector"] (spRi K))
    (FSl : Fun K "_law_small" "_law_small" sSl fSl fdSl) (bSl : Binds K fdSl ["_law_deck_here"] []) (gSl : mg "_law_small" = some (.ref fSl)) (GSl : FnOk P w K mg base CX0 3 fSl fdSl ["_law_deck_here"] (spSl K))
    (FVs : Fun K "_law_vectors" "_law_vectors" sVs fVs fdVs) (bVs : Binds K fdVs ["_law_instance"] []) (gVs : mg "_law_vectors" = some (.ref fVs)) (GVs : FnOk P w K mg base CX0 3 fVs fdVs ["_law_instance"] (spVs K))
    (m_range : mg "range" = none) :
    FnG P w K mg base 10 f fd ["_law_script"] (spLaw K) := by
  refine okG F scLaw (fun vs H Q E h => ?_) (fun cdv A outer s H vs Q E hgd hr h => ?_)
  · obtain ⟨a, ns, rfl, _⟩ := h; rfl
  · obtain ⟨a, ns, rfl, hS, hn, q⟩ := h
    refine ⟨_, pss_cons (ps_set (i := 1) scLaw.nd rfl (.inl rfl) (pe_call GSt (hr.mono (by omega)) (by rfl) gSt FSt.kp bSt .nil pass0 (pa_cons (pv 0) pa_nil)))
      (pss_cons (ps_for PassesOwn.never rfl (pi_range1 (by rfl) m_range (pa_cons (pe_int) pa_nil)) (pg_name (i := 2) scLaw.nd rfl (.inl rfl))
        (pss_cons (ps_asg (pe_call GPl (hr.mono (by omega)) (by rfl) gPl FPl.kp bPl .nil pass0 (pa_cons (pv 1) (pa_cons (pe_ix ix_list (pe_lst (pa_cons (pe_int) (pa_cons (pe_op op_pow (pe_int) (pe_int)) pa_nil))) (pv 2) (fun _ _ => rfl)) pa_nil))) (pg_unl rfl (pgs_cons (pg_name (i := 3) scLaw.nd rfl (.inl rfl)) (pgs_cons (pg_name (i := 4) scLaw.nd rfl (.inl rfl)) pgs_nil))))
        (pss_cons (ps_if (pt_not (pt_val (pe_callG GRi hgd (hr.mono (by omega)) (by rfl) gRi FRi.kp bRi (pa_cons (pv 1) (pa_cons (pv 3) (pa_cons (pv 4) pa_nil))))))
          (pss_one (ps_ret (pe_bl))) pss_nil)
        (pss_cons (ps_set (i := 5) scLaw.nd rfl (.inl rfl) (pe_call GSl (hr.mono (by omega)) (by rfl) gSl FSl.kp bSl .nil pass0 (pa_cons (pv 1) pa_nil)))
        (pss_one (ps_for PassesOwn.never rfl (pi_list (pe_slice sl_list (pe_call GVs (hr.mono (by omega)) (by rfl) gVs FVs.kp bVs .nil pass0 (pa_cons (pv 5) pa_nil)) po_none (po_some (pe_int)))) (pg_name (i := 4) scLaw.nd rfl (.inl rfl))
          (pss_one (ps_if (pt_not (pt_val (pe_callG GRi hgd (hr.mono (by omega)) (by rfl) gRi FRi.kp bRi (pa_cons (pv 1) (pa_cons (pv 5) (pa_cons (pv 4) pa_nil))))))
            (pss_one (ps_ret (pe_bl))) pss_nil))))))))
      (pss_one (ps_ret (pe_bl)))), ?_⟩
    refine ⟨.ref a, rfl, a, ns, rfl, hS, hn, fun H1 st c r s1 D1 => ?_⟩
    refine ⟨_, rfl, by decide, by decide, for_it (walk_range (lo := 0) (n := ((2 : Int)).toNat))
      (fun j σ Hj => ∃ (y2 y3 y4 y5 : Option V) (tj : Nat), σ = [some (.ref a), some (.ref st), y2, y3, y4, y5] ∧ DU Hj st c r tj ∧ tj ≤ 8000 * j)
      ⟨none, none, none, none, 0, rfl, D1, Nat.zero_le _⟩ (fun _ _ _ _ _ => trivial) ?_ ?_⟩
    · rintro j v σ Hx Hj hlt ⟨y2, y3, y4, y5, tj, rfl, Dj, htj⟩ ⟨rfl, rfl⟩
      have hj2 : j < 2 := hlt
      refine ⟨.ref st, rfl, _, _, rfl, rfl, ⟨by decide, by decide, by decide⟩, (show (2 : Nat) ≤ sizeLine by decide), fun L nL => ?_⟩
      obtain ⟨mo, hat, mo1, mo2⟩ : ∃ mo : Int, atI [V.int 9, V.int ((10 : Int) ^ (11 : Int).toNat)] (0 + (j : Int)) = some (.int mo) ∧ 1 ≤ mo ∧ mo ≤ 10 ^ 11 := by
        obtain h | h : j = 0 ∨ j = 1 := by omega
        · exact ⟨9, by rw [h]; rfl, by decide, by decide⟩
        · exact ⟨10 ^ 11, by rw [h]; rfl, by decide, by decide⟩
      refine ⟨.int (0 + (j : Nat)), rfl, L, _, _, .int mo, rfl, rfl, SqL.of upd_same, hat, st, c, r, tj, mo, rfl, Dj.new nL, by omega, mo1, mo2, fun H2 p i x t2 cs xs gs D2 ht2 X2 hp hI ok hX hv => ?_⟩
      refine ⟨p, _, rfl, hp, rfl, _, _, rfl, _, _, rfl, rfl, ?_⟩
      refine ⟨.ref st, rfl, .ref i, rfl, .ref x, rfl, st, c, r, i, x, t2, cs, xs, gs, rfl, D2, by omega, hI, ok, hX, hv, fun H3 t3 D3 ht3 X3 => ⟨_, rfl, iteF ?_⟩⟩
      refine ⟨.ref st, rfl, st, c, r, t3, rfl, D3, by omega, fun H4 p4 t4 cs4 gs4 D4 ht4 X4 hI4 ok4 l1 l2 b1 b2 _ => ?_⟩
      refine ⟨.ref p4, rfl, p4, cs4, gs4, rfl, hI4, ok4, l2, fun g hg => (b2 g hg).2, fun H5 pv ts s5 npv eT l64 hts => ?_⟩
      refine ⟨2, rfl, pv, _, rfl, SqL.of eT, fun W nW => ?_⟩
      rw [show cutV ts none (some 2) = ts.take 2 from cut_to ts 2]
      have s6 := s5.trans (sameNew (o := .lst (ts.take 2)) nW)
      have D6 := D4.same s6
      have eW : (upd H5 W (.lst (ts.take 2))) W = some (.lst (ts.take 2)) := upd_same
      have oW := (D4.same s5).off nW
      have hts6 : ∀ t ∈ ts, ∃ (T : Addr) (xs : List Int), t = .ref T ∧ SqT K (upd H5 W (.lst (ts.take 2))) T (xs.map V.int) ∧ IsVec cs4 gs4 xs := fun t ht => by
        obtain ⟨T, xs, e, h1, h2⟩ := hts t ht
        exact ⟨T, xs, e, sqS (sameNew nW) h1, h2⟩
      have hI6 := (TupK.of s6).dp _ _ (to_dInst _ _) hI4
      generalize upd H5 W (.lst (ts.take 2)) = H6 at D6 eW hts6 hI6 ⊢
      refine ⟨W, rfl, ⟨_, SqL.of eW⟩, for_it (walk_list (K := K) (a := W) (xs := ts.take 2))
        (fun k σ Hk => ∃ (y4 : Option V) (tk : Nat), σ = [some (.ref a), some (.ref st), some (.int (0 + (j : Nat))), some (.ref i), y4, some (.ref p4)] ∧ DU Hk st c r tk ∧ tk ≤ t4 + 1200 * k ∧ Ext st r H6 Hk)
        ⟨_, t4, rfl, D6, by omega, Ext.of (Same.refl _)⟩ (fun k σ Hk _ h => by obtain ⟨_, _, _, _, _, X⟩ := h; exact SqL.of (X _ _ eW oW.1 oW.2.2)) ?_ ?_⟩
      · rintro k v σ Hy Hk hltk ⟨y4, tk, rfl, Dk, htk, Xk⟩ ⟨rfl, hx⟩
        have hx : (ts.take 2)[k]? = some v := hx
        have hk2 : k < 2 := by
          have := (List.getElem?_eq_some_iff.mp hx).1
          rw [List.length_take] at this; omega
        obtain ⟨T, xs4, rfl, hT, hv4⟩ := hts6 v (List.mem_of_mem_take (List.mem_of_getElem? hx))
        have tkk := D6.tup Xk
        refine ⟨.ref st, rfl, .ref p4, rfl, .ref T, rfl, st, c, r, p4, T, tk, cs4, xs4, gs4, rfl, Dk, by omega, tkk.dp _ _ (to_dInst _ _) hI6, ok4, tkk.sq hT, hv4, fun H8 t8 D8 ht8 X8 => ⟨_, rfl, iteF ?_⟩⟩
        exact ⟨_, t8, rfl, D8, by omega, Xk.trans X8⟩
      · rintro σ Hk ⟨y4, tk, rfl, Dk, htk, Xk⟩
        have : (ts.take 2).length ≤ 2 := by rw [List.length_take]; omega
        exact ⟨_, _, _, _, tk, rfl, Dk, by omega⟩
    · rintro σ Hx ⟨y2, y3, y4, y5, tj, rfl, Dj, htj⟩
      exact q _
end
end Pv

namespace Pv
open PySem PySem.Spec PyProof.Rows L2
/-! what the top has left -/
set_option maxHeartbeats 8000000 in
theorem all_mk {l : PySem.W.OpenLaw} {w : World} {K : PySem.W.Frag} {h : Heap} {mg : Str → Option Value} {fa fWhole fWithin fTupOf fOpt fDem fExc fFre fCla fCro fRes fGr fVv fPb fVp fIp fSt fDr fPk fSm fMx fSl fAm fLi fPl fFi fFa fWh fIv fVs fVa fAp fBo fWe fPs fOd fCh fTo fRi fLaw : Addr} (X : K.In h) (G : h.Ns mainGlobals mg) (hfa : mg "law" = some (.ref fa))
    {odWhole anWhole odWithin anWithin odTupOf anTupOf odOpt anOpt odDem anDem odExc anExc odFre anFre odCla anCla odCro anCro odRes anRes odGr anGr odVv anVv odPb anPb odVp anVp odIp anIp odSt anSt odDr anDr odPk anPk odSm anSm odMx anMx odSl anSl odAm anAm odLi anLi odPl anPl odFi anFi odFa anFa odWh anWh odIv anIv odVs anVs odVa anVa odAp anAp odBo anBo odWe anWe odPs anPs odOd anOd odCh anCh odTo anTo odRi anRi odLaw anLaw : Option Addr} {slWhole slWithin slTupOf slOpt slDem slExc slFre slCla slCro slRes slGr slVv slPb slVp slIp slSt slDr slPk slSm slMx slSl slAm slLi slPl slFi slFa slWh slIv slVs slVa slAp slBo slWe slPs slOd slCh slTo slRi slLaw : Array (Option Value)}
    {ocWhole kVWhole dcWhole pmWhole cdWhole ctWhole ocWithin kVWithin dcWithin pmWithin cdWithin ctWithin ocTupOf kVTupOf dcTupOf pmTupOf cdTupOf ctTupOf ocOpt kVOpt dcOpt pmOpt cdOpt ctOpt ocDem kVDem dcDem pmDem cdDem ctDem ocExc kVExc dcExc pmExc cdExc ctExc ocFre kVFre dcFre pmFre cdFre ctFre ocCla kVCla dcCla pmCla cdCla ctCla ocCro kVCro dcCro pmCro cdCro ctCro ocRes kVRes dcRes pmRes cdRes ctRes ocGr kVGr dcGr pmGr cdGr ctGr ocVv kVVv dcVv pmVv cdVv ctVv ocPb kVPb dcPb pmPb cdPb ctPb ocVp kVVp dcVp pmVp cdVp ctVp ocIp kVIp dcIp pmIp cdIp ctIp ocSt kVSt dcSt pmSt cdSt ctSt ocDr kVDr dcDr pmDr cdDr ctDr ocPk kVPk dcPk pmPk cdPk ctPk ocSm kVSm dcSm pmSm cdSm ctSm ocMx kVMx dcMx pmMx cdMx ctMx ocSl kVSl dcSl pmSl cdSl ctSl ocAm kVAm dcAm pmAm cdAm ctAm ocLi kVLi dcLi pmLi cdLi ctLi ocPl kVPl dcPl pmPl cdPl ctPl ocFi kVFi dcFi pmFi cdFi ctFi ocFa kVFa dcFa pmFa cdFa ctFa ocWh kVWh dcWh pmWh cdWh ctWh ocIv kVIv dcIv pmIv cdIv ctIv ocVs kVVs dcVs pmVs cdVs ctVs ocVa kVVa dcVa pmVa cdVa ctVa ocAp kVAp dcAp pmAp cdAp ctAp ocBo kVBo dcBo pmBo cdBo ctBo ocWe kVWe dcWe pmWe cdWe ctWe ocPs kVPs dcPs pmPs cdPs ctPs ocOd kVOd dcOd pmOd cdOd ctOd ocCh kVCh dcCh pmCh cdCh ctCh ocTo kVTo dcTo pmTo cdTo ctTo ocRi kVRi dcRi pmRi cdRi ctRi ocLaw kVLaw dcLaw pmLaw cdLaw ctLaw : Value}
    (aWhole : PySem.W.nsIn K mainGlobals "is_whole" = some (some (.ref fWhole))) (lWhole : K.lookup fWhole = some ⟨ocWhole, odWhole, .func (PySem.W.fnOf "is_whole" "is_whole" (defArgs sWhole) (defBody sWhole) (defScope sWhole) .none kVWhole dcWhole pmWhole anWhole cdWhole ctWhole), slWhole⟩)
      (cWhole : PySem.W.codeIn K cdWhole "is_whole" = true) (kWhole : PySem.W.keepIn K (.ref fWhole) = true)
    (aWithin : PySem.W.nsIn K mainGlobals "is_within" = some (some (.ref fWithin))) (lWithin : K.lookup fWithin = some ⟨ocWithin, odWithin, .func (PySem.W.fnOf "is_within" "is_within" (defArgs sWithin) (defBody sWithin) (defScope sWithin) .none kVWithin dcWithin pmWithin anWithin cdWithin ctWithin), slWithin⟩)
      (cWithin : PySem.W.codeIn K cdWithin "is_within" = true) (kWithin : PySem.W.keepIn K (.ref fWithin) = true)
    (aTupOf : PySem.W.nsIn K mainGlobals "is_tuple_of" = some (some (.ref fTupOf))) (lTupOf : K.lookup fTupOf = some ⟨ocTupOf, odTupOf, .func (PySem.W.fnOf "is_tuple_of" "is_tuple_of" (defArgs sTupOf) (defBody sTupOf) (defScope sTupOf) .none kVTupOf dcTupOf pmTupOf anTupOf cdTupOf ctTupOf), slTupOf⟩)
      (cTupOf : PySem.W.codeIn K cdTupOf "is_tuple_of" = true) (kTupOf : PySem.W.keepIn K (.ref fTupOf) = true)
    (aOpt : PySem.W.nsIn K mainGlobals "option_post" = some (some (.ref fOpt))) (lOpt : K.lookup fOpt = some ⟨ocOpt, odOpt, .func (PySem.W.fnOf "option_post" "option_post" (defArgs sOpt) (defBody sOpt) (defScope sOpt) .none kVOpt dcOpt pmOpt anOpt cdOpt ctOpt), slOpt⟩)
      (cOpt : PySem.W.codeIn K cdOpt "option_post" = true) (kOpt : PySem.W.keepIn K (.ref fOpt) = true)
    (aDem : PySem.W.nsIn K mainGlobals "demands" = some (some (.ref fDem))) (lDem : K.lookup fDem = some ⟨ocDem, odDem, .func (PySem.W.fnOf "demands" "demands" (defArgs sDem) (defBody sDem) (defScope sDem) .none kVDem dcDem pmDem anDem cdDem ctDem), slDem⟩)
      (cDem : PySem.W.codeIn K cdDem "demands" = true) (kDem : PySem.W.keepIn K (.ref fDem) = true)
    (aExc : PySem.W.nsIn K mainGlobals "excesses" = some (some (.ref fExc))) (lExc : K.lookup fExc = some ⟨ocExc, odExc, .func (PySem.W.fnOf "excesses" "excesses" (defArgs sExc) (defBody sExc) (defScope sExc) .none kVExc dcExc pmExc anExc cdExc ctExc), slExc⟩)
      (cExc : PySem.W.codeIn K cdExc "excesses" = true) (kExc : PySem.W.keepIn K (.ref fExc) = true)
    (aFre : PySem.W.nsIn K mainGlobals "free_places" = some (some (.ref fFre))) (lFre : K.lookup fFre = some ⟨ocFre, odFre, .func (PySem.W.fnOf "free_places" "free_places" (defArgs sFre) (defBody sFre) (defScope sFre) .none kVFre dcFre pmFre anFre cdFre ctFre), slFre⟩)
      (cFre : PySem.W.codeIn K cdFre "free_places" = true) (kFre : PySem.W.keepIn K (.ref fFre) = true)
    (aCla : PySem.W.nsIn K mainGlobals "claimed_posts" = some (some (.ref fCla))) (lCla : K.lookup fCla = some ⟨ocCla, odCla, .func (PySem.W.fnOf "claimed_posts" "claimed_posts" (defArgs sCla) (defBody sCla) (defScope sCla) .none kVCla dcCla pmCla anCla cdCla ctCla), slCla⟩)
      (cCla : PySem.W.codeIn K cdCla "claimed_posts" = true) (kCla : PySem.W.keepIn K (.ref fCla) = true)
    (aCro : PySem.W.nsIn K mainGlobals "crowded_posts" = some (some (.ref fCro))) (lCro : K.lookup fCro = some ⟨ocCro, odCro, .func (PySem.W.fnOf "crowded_posts" "crowded_posts" (defArgs sCro) (defBody sCro) (defScope sCro) .none kVCro dcCro pmCro anCro cdCro ctCro), slCro⟩)
      (cCro : PySem.W.codeIn K cdCro "crowded_posts" = true) (kCro : PySem.W.keepIn K (.ref fCro) = true)
    (aRes : PySem.W.nsIn K mainGlobals "reserve_option" = some (some (.ref fRes))) (lRes : K.lookup fRes = some ⟨ocRes, odRes, .func (PySem.W.fnOf "reserve_option" "reserve_option" (defArgs sRes) (defBody sRes) (defScope sRes) .none kVRes dcRes pmRes anRes cdRes ctRes), slRes⟩)
      (cRes : PySem.W.codeIn K cdRes "reserve_option" = true) (kRes : PySem.W.keepIn K (.ref fRes) = true)
    (aGr : PySem.W.nsIn K mainGlobals "group_routes" = some (some (.ref fGr))) (lGr : K.lookup fGr = some ⟨ocGr, odGr, .func (PySem.W.fnOf "group_routes" "group_routes" (defArgs sGr) (defBody sGr) (defScope sGr) .none kVGr dcGr pmGr anGr cdGr ctGr), slGr⟩)
      (cGr : PySem.W.codeIn K cdGr "group_routes" = true) (kGr : PySem.W.keepIn K (.ref fGr) = true)
    (aVv : PySem.W.nsIn K mainGlobals "vector_value" = some (some (.ref fVv))) (lVv : K.lookup fVv = some ⟨ocVv, odVv, .func (PySem.W.fnOf "vector_value" "vector_value" (defArgs sVv) (defBody sVv) (defScope sVv) .none kVVv dcVv pmVv anVv cdVv ctVv), slVv⟩)
      (cVv : PySem.W.codeIn K cdVv "vector_value" = true) (kVv : PySem.W.keepIn K (.ref fVv) = true)
    (aPb : PySem.W.nsIn K mainGlobals "price_bound" = some (some (.ref fPb))) (lPb : K.lookup fPb = some ⟨ocPb, odPb, .func (PySem.W.fnOf "price_bound" "price_bound" (defArgs sPb) (defBody sPb) (defScope sPb) .none kVPb dcPb pmPb anPb cdPb ctPb), slPb⟩)
      (cPb : PySem.W.codeIn K cdPb "price_bound" = true) (kPb : PySem.W.keepIn K (.ref fPb) = true)
    (aVp : PySem.W.nsIn K mainGlobals "is_vector_prices" = some (some (.ref fVp))) (lVp : K.lookup fVp = some ⟨ocVp, odVp, .func (PySem.W.fnOf "is_vector_prices" "is_vector_prices" (defArgs sVp) (defBody sVp) (defScope sVp) .none kVVp dcVp pmVp anVp cdVp ctVp), slVp⟩)
      (cVp : PySem.W.codeIn K cdVp "is_vector_prices" = true) (kVp : PySem.W.keepIn K (.ref fVp) = true)
    (aIp : PySem.W.nsIn K mainGlobals "is_price_row" = some (some (.ref fIp))) (lIp : K.lookup fIp = some ⟨ocIp, odIp, .func (PySem.W.fnOf "is_price_row" "is_price_row" (defArgs sIp) (defBody sIp) (defScope sIp) .none kVIp dcIp pmIp anIp cdIp ctIp), slIp⟩)
      (cIp : PySem.W.codeIn K cdIp "is_price_row" = true) (kIp : PySem.W.keepIn K (.ref fIp) = true)
    (aSt : PySem.W.nsIn K mainGlobals "_law_deck" = some (some (.ref fSt))) (lSt : K.lookup fSt = some ⟨ocSt, odSt, .func (PySem.W.fnOf "_law_deck" "_law_deck" (defArgs sSt) (defBody sSt) (defScope sSt) .none kVSt dcSt pmSt anSt cdSt ctSt), slSt⟩)
      (cSt : PySem.W.codeIn K cdSt "_law_deck" = true) (kSt : PySem.W.keepIn K (.ref fSt) = true)
    (aDr : PySem.W.nsIn K mainGlobals "_law_draw" = some (some (.ref fDr))) (lDr : K.lookup fDr = some ⟨ocDr, odDr, .func (PySem.W.fnOf "_law_draw" "_law_draw" (defArgs sDr) (defBody sDr) (defScope sDr) .none kVDr dcDr pmDr anDr cdDr ctDr), slDr⟩)
      (cDr : PySem.W.codeIn K cdDr "_law_draw" = true) (kDr : PySem.W.keepIn K (.ref fDr) = true)
    (aPk : PySem.W.nsIn K mainGlobals "_law_pick" = some (some (.ref fPk))) (lPk : K.lookup fPk = some ⟨ocPk, odPk, .func (PySem.W.fnOf "_law_pick" "_law_pick" (defArgs sPk) (defBody sPk) (defScope sPk) .none kVPk dcPk pmPk anPk cdPk ctPk), slPk⟩)
      (cPk : PySem.W.codeIn K cdPk "_law_pick" = true) (kPk : PySem.W.keepIn K (.ref fPk) = true)
    (aSm : PySem.W.nsIn K mainGlobals "_law_same" = some (some (.ref fSm))) (lSm : K.lookup fSm = some ⟨ocSm, odSm, .func (PySem.W.fnOf "_law_same" "_law_same" (defArgs sSm) (defBody sSm) (defScope sSm) .none kVSm dcSm pmSm anSm cdSm ctSm), slSm⟩)
      (cSm : PySem.W.codeIn K cdSm "_law_same" = true) (kSm : PySem.W.keepIn K (.ref fSm) = true)
    (aMx : PySem.W.nsIn K mainGlobals "_law_mixed" = some (some (.ref fMx))) (lMx : K.lookup fMx = some ⟨ocMx, odMx, .func (PySem.W.fnOf "_law_mixed" "_law_mixed" (defArgs sMx) (defBody sMx) (defScope sMx) .none kVMx dcMx pmMx anMx cdMx ctMx), slMx⟩)
      (cMx : PySem.W.codeIn K cdMx "_law_mixed" = true) (kMx : PySem.W.keepIn K (.ref fMx) = true)
    (aSl : PySem.W.nsIn K mainGlobals "_law_small" = some (some (.ref fSl))) (lSl : K.lookup fSl = some ⟨ocSl, odSl, .func (PySem.W.fnOf "_law_small" "_law_small" (defArgs sSl) (defBody sSl) (defScope sSl) .none kVSl dcSl pmSl anSl cdSl ctSl), slSl⟩)
      (cSl : PySem.W.codeIn K cdSl "_law_small" = true) (kSl : PySem.W.keepIn K (.ref fSl) = true)
    (aAm : PySem.W.nsIn K mainGlobals "_law_amount" = some (some (.ref fAm))) (lAm : K.lookup fAm = some ⟨ocAm, odAm, .func (PySem.W.fnOf "_law_amount" "_law_amount" (defArgs sAm) (defBody sAm) (defScope sAm) .none kVAm dcAm pmAm anAm cdAm ctAm), slAm⟩)
      (cAm : PySem.W.codeIn K cdAm "_law_amount" = true) (kAm : PySem.W.keepIn K (.ref fAm) = true)
    (aLi : PySem.W.nsIn K mainGlobals "_law_lines" = some (some (.ref fLi))) (lLi : K.lookup fLi = some ⟨ocLi, odLi, .func (PySem.W.fnOf "_law_lines" "_law_lines" (defArgs sLi) (defBody sLi) (defScope sLi) .none kVLi dcLi pmLi anLi cdLi ctLi), slLi⟩)
      (cLi : PySem.W.codeIn K cdLi "_law_lines" = true) (kLi : PySem.W.keepIn K (.ref fLi) = true)
    (aPl : PySem.W.nsIn K mainGlobals "_law_planned" = some (some (.ref fPl))) (lPl : K.lookup fPl = some ⟨ocPl, odPl, .func (PySem.W.fnOf "_law_planned" "_law_planned" (defArgs sPl) (defBody sPl) (defScope sPl) .none kVPl dcPl pmPl anPl cdPl ctPl), slPl⟩)
      (cPl : PySem.W.codeIn K cdPl "_law_planned" = true) (kPl : PySem.W.keepIn K (.ref fPl) = true)
    (aFi : PySem.W.nsIn K mainGlobals "_law_fitted" = some (some (.ref fFi))) (lFi : K.lookup fFi = some ⟨ocFi, odFi, .func (PySem.W.fnOf "_law_fitted" "_law_fitted" (defArgs sFi) (defBody sFi) (defScope sFi) .none kVFi dcFi pmFi anFi cdFi ctFi), slFi⟩)
      (cFi : PySem.W.codeIn K cdFi "_law_fitted" = true) (kFi : PySem.W.keepIn K (.ref fFi) = true)
    (aFa : PySem.W.nsIn K mainGlobals "_law_facts" = some (some (.ref fFa))) (lFa : K.lookup fFa = some ⟨ocFa, odFa, .func (PySem.W.fnOf "_law_facts" "_law_facts" (defArgs sFa) (defBody sFa) (defScope sFa) .none kVFa dcFa pmFa anFa cdFa ctFa), slFa⟩)
      (cFa : PySem.W.codeIn K cdFa "_law_facts" = true) (kFa : PySem.W.keepIn K (.ref fFa) = true)
    (aWh : PySem.W.nsIn K mainGlobals "_law_whole" = some (some (.ref fWh))) (lWh : K.lookup fWh = some ⟨ocWh, odWh, .func (PySem.W.fnOf "_law_whole" "_law_whole" (defArgs sWh) (defBody sWh) (defScope sWh) .none kVWh dcWh pmWh anWh cdWh ctWh), slWh⟩)
      (cWh : PySem.W.codeIn K cdWh "_law_whole" = true) (kWh : PySem.W.keepIn K (.ref fWh) = true)
    (aIv : PySem.W.nsIn K mainGlobals "_law_is_vector" = some (some (.ref fIv))) (lIv : K.lookup fIv = some ⟨ocIv, odIv, .func (PySem.W.fnOf "_law_is_vector" "_law_is_vector" (defArgs sIv) (defBody sIv) (defScope sIv) .none kVIv dcIv pmIv anIv cdIv ctIv), slIv⟩)
      (cIv : PySem.W.codeIn K cdIv "_law_is_vector" = true) (kIv : PySem.W.keepIn K (.ref fIv) = true)
    (aVs : PySem.W.nsIn K mainGlobals "_law_vectors" = some (some (.ref fVs))) (lVs : K.lookup fVs = some ⟨ocVs, odVs, .func (PySem.W.fnOf "_law_vectors" "_law_vectors" (defArgs sVs) (defBody sVs) (defScope sVs) .none kVVs dcVs pmVs anVs cdVs ctVs), slVs⟩)
      (cVs : PySem.W.codeIn K cdVs "_law_vectors" = true) (kVs : PySem.W.keepIn K (.ref fVs) = true)
    (aVa : PySem.W.nsIn K mainGlobals "_law_value" = some (some (.ref fVa))) (lVa : K.lookup fVa = some ⟨ocVa, odVa, .func (PySem.W.fnOf "_law_value" "_law_value" (defArgs sVa) (defBody sVa) (defScope sVa) .none kVVa dcVa pmVa anVa cdVa ctVa), slVa⟩)
      (cVa : PySem.W.codeIn K cdVa "_law_value" = true) (kVa : PySem.W.keepIn K (.ref fVa) = true)
    (aAp : PySem.W.nsIn K mainGlobals "_law_are_prices" = some (some (.ref fAp))) (lAp : K.lookup fAp = some ⟨ocAp, odAp, .func (PySem.W.fnOf "_law_are_prices" "_law_are_prices" (defArgs sAp) (defBody sAp) (defScope sAp) .none kVAp dcAp pmAp anAp cdAp ctAp), slAp⟩)
      (cAp : PySem.W.codeIn K cdAp "_law_are_prices" = true) (kAp : PySem.W.keepIn K (.ref fAp) = true)
    (aBo : PySem.W.nsIn K mainGlobals "_law_bound" = some (some (.ref fBo))) (lBo : K.lookup fBo = some ⟨ocBo, odBo, .func (PySem.W.fnOf "_law_bound" "_law_bound" (defArgs sBo) (defBody sBo) (defScope sBo) .none kVBo dcBo pmBo anBo cdBo ctBo), slBo⟩)
      (cBo : PySem.W.codeIn K cdBo "_law_bound" = true) (kBo : PySem.W.keepIn K (.ref fBo) = true)
    (aWe : PySem.W.nsIn K mainGlobals "_law_weights" = some (some (.ref fWe))) (lWe : K.lookup fWe = some ⟨ocWe, odWe, .func (PySem.W.fnOf "_law_weights" "_law_weights" (defArgs sWe) (defBody sWe) (defScope sWe) .none kVWe dcWe pmWe anWe cdWe ctWe), slWe⟩)
      (cWe : PySem.W.codeIn K cdWe "_law_weights" = true) (kWe : PySem.W.keepIn K (.ref fWe) = true)
    (aPs : PySem.W.nsIn K mainGlobals "_law_prices" = some (some (.ref fPs))) (lPs : K.lookup fPs = some ⟨ocPs, odPs, .func (PySem.W.fnOf "_law_prices" "_law_prices" (defArgs sPs) (defBody sPs) (defScope sPs) .none kVPs dcPs pmPs anPs cdPs ctPs), slPs⟩)
      (cPs : PySem.W.codeIn K cdPs "_law_prices" = true) (kPs : PySem.W.keepIn K (.ref fPs) = true)
    (aOd : PySem.W.nsIn K mainGlobals "_law_odd" = some (some (.ref fOd))) (lOd : K.lookup fOd = some ⟨ocOd, odOd, .func (PySem.W.fnOf "_law_odd" "_law_odd" (defArgs sOd) (defBody sOd) (defScope sOd) .none kVOd dcOd pmOd anOd cdOd ctOd), slOd⟩)
      (cOd : PySem.W.codeIn K cdOd "_law_odd" = true) (kOd : PySem.W.keepIn K (.ref fOd) = true)
    (aCh : PySem.W.nsIn K mainGlobals "_law_changed" = some (some (.ref fCh))) (lCh : K.lookup fCh = some ⟨ocCh, odCh, .func (PySem.W.fnOf "_law_changed" "_law_changed" (defArgs sCh) (defBody sCh) (defScope sCh) .none kVCh dcCh pmCh anCh cdCh ctCh), slCh⟩)
      (cCh : PySem.W.codeIn K cdCh "_law_changed" = true) (kCh : PySem.W.keepIn K (.ref fCh) = true)
    (aTo : PySem.W.nsIn K mainGlobals "_law_told" = some (some (.ref fTo))) (lTo : K.lookup fTo = some ⟨ocTo, odTo, .func (PySem.W.fnOf "_law_told" "_law_told" (defArgs sTo) (defBody sTo) (defScope sTo) .none kVTo dcTo pmTo anTo cdTo ctTo), slTo⟩)
      (cTo : PySem.W.codeIn K cdTo "_law_told" = true) (kTo : PySem.W.keepIn K (.ref fTo) = true)
    (aRi : PySem.W.nsIn K mainGlobals "_law_right" = some (some (.ref fRi))) (lRi : K.lookup fRi = some ⟨ocRi, odRi, .func (PySem.W.fnOf "_law_right" "_law_right" (defArgs sRi) (defBody sRi) (defScope sRi) .none kVRi dcRi pmRi anRi cdRi ctRi), slRi⟩)
      (cRi : PySem.W.codeIn K cdRi "_law_right" = true) (kRi : PySem.W.keepIn K (.ref fRi) = true)
    (aLaw : PySem.W.nsIn K mainGlobals "law" = some (some (.ref fLaw))) (lLaw : K.lookup fLaw = some ⟨ocLaw, odLaw, .func (PySem.W.fnOf "law" "law" (defArgs sLaw) (defBody sLaw) (defScope sLaw) .none kVLaw dcLaw pmLaw anLaw cdLaw ctLaw), slLaw⟩)
      (cLaw : PySem.W.codeIn K cdLaw "law" = true) (kLaw : PySem.W.keepIn K (.ref fLaw) = true)
    (z0 : PySem.W.nsIn K mainGlobals "isinstance" = some none)
    (z1 : PySem.W.nsIn K mainGlobals "int" = some none)
    (z2 : PySem.W.nsIn K mainGlobals "bool" = some none)
    (z3 : PySem.W.nsIn K mainGlobals "tuple" = some none)
    (z4 : PySem.W.nsIn K mainGlobals "list" = some none)
    (z5 : PySem.W.nsIn K mainGlobals "len" = some none)
    (z6 : PySem.W.nsIn K mainGlobals "all" = some none)
    (z7 : PySem.W.nsIn K mainGlobals "any" = some none)
    (z8 : PySem.W.nsIn K mainGlobals "sum" = some none)
    (z9 : PySem.W.nsIn K mainGlobals "zip" = some none)
    (z10 : PySem.W.nsIn K mainGlobals "min" = some none)
    (z11 : PySem.W.nsIn K mainGlobals "max" = some none)
    (z12 : PySem.W.nsIn K mainGlobals "abs" = some none)
    (z13 : PySem.W.nsIn K mainGlobals "range" = some none)
    (z14 : PySem.W.nsIn K mainGlobals "repr" = some none)
    (z15 : PySem.W.nsIn K mainGlobals "enumerate" = some none)
    (z16 : PySem.W.nsIn K mainGlobals "ValueError" = some none)
    {uLIMIT : Value} (y0 : PySem.W.nsIn K mainGlobals "LIMIT" = some (some uLIMIT)) (rLIMIT : RelV (.int 1000000000000) uLIMIT)
    {cBP : Addr} (aCBP : PySem.W.nsIn K mainGlobals "BadPrices" = some (some (.ref cBP))) (iCBP : isCB K cBP = true)
    {cVE : Addr} (aCVE : PySem.W.nsIn K mainGlobals "VoteError" = some (some (.ref cVE))) (iCVE : isCB K cVE = true)
    {cBV : Addr} (aCBV : PySem.W.nsIn K mainGlobals "BadVector" = some (some (.ref cBV))) (iCBV : isCB K cBV = true)
    {cNU : Addr} (aCNU : PySem.W.nsIn K mainGlobals "NoUnbeaten" = some (some (.ref cNU))) (iCNU : isCB K cNU = true)
    {cTM : Addr} (aCTM : PySem.W.nsIn K mainGlobals "TooMany" = some (some (.ref cTM))) (iCTM : isCB K cTM = true)
    (xBP : PySem.W.excIn K cBP VEbm "ValueError.__new__" = true)
    (x1 : PySem.W.exmOne K (.ref cBP) (.ref cVE) = some true)
    (x2 : PySem.W.kitOne K (.ref cBP) (.ref cBP) = some true)
    (x3 : PySem.W.kitOne K (.ref cBP) (.type "ValueError") = some true)
    (x4 : PySem.W.kitAny K (.ref cBP) [.ref cBV, .ref cNU, .ref cTM] = some false)
    : ∃ fd : FuncData, (∀ (s : Shared) (v : Value), BindsTo s fd ⟨[v], []⟩ [("_law_script", v)]) ∧ ∀ base : Heap, K.In base → base.Ns mainGlobals mg → FnG l.prog w K mg base 10 fa fd ["_law_script"] (spLaw K) := by
  have e := hfa.symm.trans (PySem.W.mg_of X G aLaw)
  cases e
  have FWhole := fun_mk (st := sWhole) lWhole cWhole kWhole
  have bWhole := FWhole.binds (ps := ["value"]) fun _ _ _ _ _ _ us hl => match us, hl with | [_], _ => rfl
  have gWhole := PySem.W.mg_of X G aWhole
  have FWithin := fun_mk (st := sWithin) lWithin cWithin kWithin
  have bWithin := FWithin.binds (ps := ["value", "least", "most"]) fun _ _ _ _ _ _ us hl => match us, hl with | [_, _, _], _ => rfl
  have gWithin := PySem.W.mg_of X G aWithin
  have FTupOf := fun_mk (st := sTupOf) lTupOf cTupOf kTupOf
  have bTupOf := FTupOf.binds (ps := ["value", "least", "most"]) fun _ _ _ _ _ _ us hl => match us, hl with | [_, _, _], _ => rfl
  have gTupOf := PySem.W.mg_of X G aTupOf
  have FOpt := fun_mk (st := sOpt) lOpt cOpt kOpt
  have bOpt := FOpt.binds (ps := ["instance", "group", "option"]) fun _ _ _ _ _ _ us hl => match us, hl with | [_, _, _], _ => rfl
  have gOpt := PySem.W.mg_of X G aOpt
  have FDem := fun_mk (st := sDem) lDem cDem kDem
  have bDem := FDem.binds (ps := ["instance"]) fun _ _ _ _ _ _ us hl => match us, hl with | [_], _ => rfl
  have gDem := PySem.W.mg_of X G aDem
  have FExc := fun_mk (st := sExc) lExc cExc kExc
  have bExc := FExc.binds (ps := ["instance"]) fun _ _ _ _ _ _ us hl => match us, hl with | [_], _ => rfl
  have gExc := PySem.W.mg_of X G aExc
  have FFre := fun_mk (st := sFre) lFre cFre kFre
  have bFre := FFre.binds (ps := ["instance"]) fun _ _ _ _ _ _ us hl => match us, hl with | [_], _ => rfl
  have gFre := PySem.W.mg_of X G aFre
  have FCla := fun_mk (st := sCla) lCla cCla kCla
  have bCla := FCla.binds (ps := ["instance"]) fun _ _ _ _ _ _ us hl => match us, hl with | [_], _ => rfl
  have gCla := PySem.W.mg_of X G aCla
  have FCro := fun_mk (st := sCro) lCro cCro kCro
  have bCro := FCro.binds (ps := ["instance"]) fun _ _ _ _ _ _ us hl => match us, hl with | [_], _ => rfl
  have gCro := PySem.W.mg_of X G aCro
  have FRes := fun_mk (st := sRes) lRes cRes kRes
  have bRes := FRes.binds (ps := ["instance", "group"]) fun _ _ _ _ _ _ us hl => match us, hl with | [_, _], _ => rfl
  have gRes := PySem.W.mg_of X G aRes
  have FGr := fun_mk (st := sGr) lGr cGr kGr
  have bGr := FGr.binds (ps := ["instance"]) fun _ _ _ _ _ _ us hl => match us, hl with | [_], _ => rfl
  have gGr := PySem.W.mg_of X G aGr
  have FVv := fun_mk (st := sVv) lVv cVv kVv
  have bVv := FVv.binds (ps := ["weights", "vector"]) fun _ _ _ _ _ _ us hl => match us, hl with | [_, _], _ => rfl
  have gVv := PySem.W.mg_of X G aVv
  have FPb := fun_mk (st := sPb) lPb cPb kPb
  have bPb := FPb.binds (ps := ["instance", "weights", "prices"]) fun _ _ _ _ _ _ us hl => match us, hl with | [_, _, _], _ => rfl
  have gPb := PySem.W.mg_of X G aPb
  have FVp := fun_mk (st := sVp) lVp cVp kVp
  have bVp := FVp.binds (ps := ["instance", "value"]) fun _ _ _ _ _ _ us hl => match us, hl with | [_, _], _ => rfl
  have gVp := PySem.W.mg_of X G aVp
  have FIp := fun_mk (st := sIp) lIp cIp kIp
  have bIp := FIp.binds (ps := ["instance", "value"]) fun _ _ _ _ _ _ us hl => match us, hl with | [_, _], _ => rfl
  have gIp := PySem.W.mg_of X G aIp
  have FSt := fun_mk (st := sSt) lSt cSt kSt
  have bSt := FSt.binds (ps := ["_law_script"]) fun _ _ _ _ _ _ us hl => match us, hl with | [_], _ => rfl
  have gSt := PySem.W.mg_of X G aSt
  have FDr := fun_mk (st := sDr) lDr cDr kDr
  have bDr := FDr.binds (ps := ["_law_deck_here", "_law_many"]) fun _ _ _ _ _ _ us hl => match us, hl with | [_, _], _ => rfl
  have gDr := PySem.W.mg_of X G aDr
  have FPk := fun_mk (st := sPk) lPk cPk kPk
  have bPk := FPk.binds (ps := ["_law_deck_here", "_law_items"]) fun _ _ _ _ _ _ us hl => match us, hl with | [_, _], _ => rfl
  have gPk := PySem.W.mg_of X G aPk
  have FSm := fun_mk (st := sSm) lSm cSm kSm
  have bSm := FSm.binds (ps := ["_law_found", "_law_due"]) fun _ _ _ _ _ _ us hl => match us, hl with | [_, _], _ => rfl
  have gSm := PySem.W.mg_of X G aSm
  have FMx := fun_mk (st := sMx) lMx cMx kMx
  have bMx := FMx.binds (ps := ["_law_deck_here", "_law_items"]) fun _ _ _ _ _ _ us hl => match us, hl with | [_, _], _ => rfl
  have gMx := PySem.W.mg_of X G aMx
  have FSl := fun_mk (st := sSl) lSl cSl kSl
  have bSl := FSl.binds (ps := ["_law_deck_here"]) fun _ _ _ _ _ _ us hl => match us, hl with | [_], _ => rfl
  have gSl := PySem.W.mg_of X G aSl
  have FAm := fun_mk (st := sAm) lAm cAm kAm
  have bAm := FAm.binds (ps := ["_law_deck_here", "_law_most"]) fun _ _ _ _ _ _ us hl => match us, hl with | [_, _], _ => rfl
  have gAm := PySem.W.mg_of X G aAm
  have FLi := fun_mk (st := sLi) lLi cLi kLi
  have bLi := FLi.binds (ps := ["_law_deck_here", "_law_posts"]) fun _ _ _ _ _ _ us hl => match us, hl with | [_, _], _ => rfl
  have gLi := PySem.W.mg_of X G aLi
  have FPl := fun_mk (st := sPl) lPl cPl kPl
  have bPl := FPl.binds (ps := ["_law_deck_here", "_law_most"]) fun _ _ _ _ _ _ us hl => match us, hl with | [_, _], _ => rfl
  have gPl := PySem.W.mg_of X G aPl
  have FFi := fun_mk (st := sFi) lFi cFi kFi
  have bFi := FFi.binds (ps := ["_law_deck_here", "_law_instance", "_law_numbers"]) fun _ _ _ _ _ _ us hl => match us, hl with | [_, _, _], _ => rfl
  have gFi := PySem.W.mg_of X G aFi
  have FFa := fun_mk (st := sFa) lFa cFa kFa
  have bFa := FFa.binds (ps := ["_law_instance"]) fun _ _ _ _ _ _ us hl => match us, hl with | [_], _ => rfl
  have gFa := PySem.W.mg_of X G aFa
  have FWh := fun_mk (st := sWh) lWh cWh kWh
  have bWh := FWh.binds (ps := ["_law_value_here", "_law_low", "_law_high"]) fun _ _ _ _ _ _ us hl => match us, hl with | [_, _, _], _ => rfl
  have gWh := PySem.W.mg_of X G aWh
  have FIv := fun_mk (st := sIv) lIv cIv kIv
  have bIv := FIv.binds (ps := ["_law_instance", "_law_value_here"]) fun _ _ _ _ _ _ us hl => match us, hl with | [_, _], _ => rfl
  have gIv := PySem.W.mg_of X G aIv
  have FVs := fun_mk (st := sVs) lVs cVs kVs
  have bVs := FVs.binds (ps := ["_law_instance"]) fun _ _ _ _ _ _ us hl => match us, hl with | [_], _ => rfl
  have gVs := PySem.W.mg_of X G aVs
  have FVa := fun_mk (st := sVa) lVa cVa kVa
  have bVa := FVa.binds (ps := ["_law_weights_here", "_law_vector"]) fun _ _ _ _ _ _ us hl => match us, hl with | [_, _], _ => rfl
  have gVa := PySem.W.mg_of X G aVa
  have FAp := fun_mk (st := sAp) lAp cAp kAp
  have bAp := FAp.binds (ps := ["_law_instance", "_law_value_here"]) fun _ _ _ _ _ _ us hl => match us, hl with | [_, _], _ => rfl
  have gAp := PySem.W.mg_of X G aAp
  have FBo := fun_mk (st := sBo) lBo cBo kBo
  have bBo := FBo.binds (ps := ["_law_instance", "_law_weights_here", "_law_prices_here"]) fun _ _ _ _ _ _ us hl => match us, hl with | [_, _, _], _ => rfl
  have gBo := PySem.W.mg_of X G aBo
  have FWe := fun_mk (st := sWe) lWe cWe kWe
  have bWe := FWe.binds (ps := ["_law_deck_here", "_law_many", "_law_most"]) fun _ _ _ _ _ _ us hl => match us, hl with | [_, _, _], _ => rfl
  have gWe := PySem.W.mg_of X G aWe
  have FPs := fun_mk (st := sPs) lPs cPs kPs
  have bPs := FPs.binds (ps := ["_law_deck_here", "_law_instance", "_law_weights_here"]) fun _ _ _ _ _ _ us hl => match us, hl with | [_, _, _], _ => rfl
  have gPs := PySem.W.mg_of X G aPs
  have FOd := fun_mk (st := sOd) lOd cOd kOd
  have bOd := FOd.binds (ps := ["_law_deck_here"]) fun _ _ _ _ _ _ us hl => match us, hl with | [_], _ => rfl
  have gOd := PySem.W.mg_of X G aOd
  have FCh := fun_mk (st := sCh) lCh cCh kCh
  have bCh := FCh.binds (ps := ["_law_deck_here", "_law_value_here", "_law_depth"]) fun _ _ _ _ _ _ us hl => match us, hl with | [_, _, _], _ => rfl
  have gCh := PySem.W.mg_of X G aCh
  have FTo := fun_mk (st := sTo) lTo cTo kTo
  have bTo := FTo.binds (ps := ["_law_instance", "_law_weights_here", "_law_prices_here"]) fun _ _ _ _ _ _ us hl => match us, hl with | [_, _, _], _ => rfl
  have gTo := PySem.W.mg_of X G aTo
  have FRi := fun_mk (st := sRi) lRi cRi kRi
  have bRi := FRi.binds (ps := ["_law_deck_here", "_law_instance", "_law_vector"]) fun _ _ _ _ _ _ us hl => match us, hl with | [_, _, _], _ => rfl
  have gRi := PySem.W.mg_of X G aRi
  have FLaw := fun_mk (st := sLaw) lLaw cLaw kLaw
  have m_isinstance := PySem.W.mg_none_of X G z0
  have m_int := PySem.W.mg_none_of X G z1
  have m_bool := PySem.W.mg_none_of X G z2
  have m_tuple := PySem.W.mg_none_of X G z3
  have m_list := PySem.W.mg_none_of X G z4
  have m_len := PySem.W.mg_none_of X G z5
  have m_all := PySem.W.mg_none_of X G z6
  have m_any := PySem.W.mg_none_of X G z7
  have m_sum := PySem.W.mg_none_of X G z8
  have m_zip := PySem.W.mg_none_of X G z9
  have m_min := PySem.W.mg_none_of X G z10
  have m_max := PySem.W.mg_none_of X G z11
  have m_abs := PySem.W.mg_none_of X G z12
  have m_range := PySem.W.mg_none_of X G z13
  have m_repr := PySem.W.mg_none_of X G z14
  have m_enumerate := PySem.W.mg_none_of X G z15
  have m_ValueError := PySem.W.mg_none_of X G z16
  have vLIMIT := PySem.W.mg_of X G y0
  have gBP := PySem.W.mg_of X G aCBP
  have IBP := isCB_ok iCBP
  have gVE := PySem.W.mg_of X G aCVE
  have IVE := isCB_ok iCVE
  have gBV := PySem.W.mg_of X G aCBV
  have IBV := isCB_ok iCBV
  have gNU := PySem.W.mg_of X G aCNU
  have INU := isCB_ok iCNU
  have gTM := PySem.W.mg_of X G aCTM
  have ITM := isCB_ok iCTM
  refine ⟨PySem.W.fnOf "law" "law" (defArgs sLaw) (defBody sLaw) (defScope sLaw) .none kVLaw dcLaw pmLaw anLaw cdLaw ctLaw, fun s v => .of_eq rfl, fun base _ _ => ?_⟩
  have GWhole := ok_whole (P := l.prog) (w := w) (base := base) (mg := mg) (k := 0) FWhole m_isinstance m_int m_bool
  have GWithin := ok_within (P := l.prog) (w := w) (base := base) (mg := mg) (k := 0) FWithin FWhole bWhole gWhole GWhole
  have GTupOf := ok_tupOf (P := l.prog) (w := w) (base := base) (mg := mg) (k := 0) FTupOf m_isinstance m_tuple m_len
  have GOpt := ok_opt (P := l.prog) (w := w) (base := base) (mg := mg) (k := 0) FOpt m_len
  have GDem := ok_dem (P := l.prog) (w := w) (base := base) (mg := mg) (k := 0) FDem m_len m_tuple
  have GExc := ok_exc (P := l.prog) (w := w) (base := base) (mg := mg) (k := 0) FExc FDem bDem gDem GDem m_tuple m_zip m_max
  have GFre := ok_fre (P := l.prog) (w := w) (base := base) (mg := mg) (k := 0) FFre FDem bDem gDem GDem m_tuple m_zip m_max
  have GCla := ok_cla (P := l.prog) (w := w) (base := base) (mg := mg) (k := 0) FCla FFre bFre gFre GFre m_tuple m_enumerate
  have GCro := ok_cro (P := l.prog) (w := w) (base := base) (mg := mg) (k := 0) FCro FExc bExc gExc GExc m_tuple m_enumerate
  have GRes := ok_res (P := l.prog) (w := w) (base := base) (mg := mg) (k := 0) FRes FCla bCla gCla GCla m_range m_len
  have GGr := ok_Gr (P := l.prog) (w := w) (base := base) (mg := mg) FGr FCro bCro gCro GCro FOpt bOpt gOpt GOpt FRes bRes gRes GRes m_len m_range
  have GVv := ok_Vv (P := l.prog) (w := w) (base := base) (mg := mg) FVv     m_zip m_sum
  have GIp := ok_Ip (P := l.prog) (w := w) (base := base) (mg := mg) FIp  FTupOf bTupOf gTupOf GTupOf FWithin bWithin gWithin GWithin  vLIMIT rLIMIT m_len m_all
  have GVp := ok_Vp (P := l.prog) (w := w) (base := base) (mg := mg) FVp  FTupOf bTupOf gTupOf GTupOf FIp bIp gIp GIp FExc bExc gExc GExc FFre bFre gFre GFre   m_zip m_any m_all
  have GPb := ok_Pb (P := l.prog) (w := w) (base := base) (mg := mg) FPb  FVp bVp gVp GVp FExc bExc gExc GExc FFre bFre gFre GFre FGr bGr gGr GGr gBP IBP xBP  m_zip m_sum m_max
  have GSt := ok_St (P := l.prog) (w := w) (base := base) (mg := mg) FSt     m_list m_len m_int
  have GDr := ok_Dr (P := l.prog) (w := w) (base := base) (mg := mg) FDr     m_len
  have GPk := ok_Pk (P := l.prog) (w := w) (base := base) (mg := mg) FPk  FDr bDr gDr GDr   m_len
  have GSm := ok_Sm (P := l.prog) (w := w) (base := base) (mg := mg) FSm     m_repr
  have GMx := ok_Mx (P := l.prog) (w := w) (base := base) (mg := mg) FMx  FDr bDr gDr GDr   m_list m_len
  have GAm := ok_Am (P := l.prog) (w := w) (base := base) (mg := mg) FAm  FDr bDr gDr GDr   m_min
  have GLi := ok_Li (P := l.prog) (w := w) (base := base) (mg := mg) FLi  FDr bDr gDr GDr FMx bMx gMx GMx   m_max m_list m_range m_tuple
  have GSl := ok_Sl (P := l.prog) (w := w) (base := base) (mg := mg) FSl  FDr bDr gDr GDr FMx bMx gMx GMx   m_range m_tuple m_list
  have GFa := ok_Fa (P := l.prog) (w := w) (base := base) (mg := mg) FFa     m_len m_zip m_max m_range
  have GFi := ok_Fi (P := l.prog) (w := w) (base := base) (mg := mg) FFi  FFa bFa gFa GFa FDr bDr gDr GDr   m_list m_len m_min m_sum m_max m_range m_tuple
  have GPl := ok_Pl (P := l.prog) (w := w) (base := base) (mg := mg) FPl  FDr bDr gDr GDr FAm bAm gAm GAm FLi bLi gLi GLi FFi bFi gFi GFi   m_max m_range m_zip m_int m_min m_tuple
  have GWh := ok_Wh (P := l.prog) (w := w) (base := base) (mg := mg) FWh     m_int m_isinstance m_bool
  have GIv := ok_Iv (P := l.prog) (w := w) (base := base) (mg := mg) FIv  FWh bWh gWh GWh FFa bFa gFa GFa   m_tuple m_isinstance m_len m_range m_sum
  have GVs := ok_Vs (P := l.prog) (w := w) (base := base) (mg := mg) FVs  FIv bIv gIv GIv   m_range
  have GVa := ok_Va (P := l.prog) (w := w) (base := base) (mg := mg) FVa     m_zip m_sum
  have GAp := ok_Ap (P := l.prog) (w := w) (base := base) (mg := mg) FAp  FFa bFa gFa GFa FWh bWh gWh GWh   m_tuple m_isinstance m_len m_range
  have GBo := ok_Bo (P := l.prog) (w := w) (base := base) (mg := mg) FBo  FFa bFa gFa GFa   m_zip m_sum m_max
  have GWe := ok_We (P := l.prog) (w := w) (base := base) (mg := mg) FWe  FDr bDr gDr GDr FPk bPk gPk GPk   m_range m_min m_max m_tuple
  have GPs := ok_Ps (P := l.prog) (w := w) (base := base) (mg := mg) FPs  FFa bFa gFa GFa FPk bPk gPk GPk FDr bDr gDr GDr   m_range m_len m_list m_abs m_int m_tuple
  have GOd := ok_Od (P := l.prog) (w := w) (base := base) (mg := mg) FOd  FPk bPk gPk GPk   
  have GCh := ok_Ch (P := l.prog) (w := w) (base := base) (mg := mg) FCh bCh gCh FDr bDr gDr GDr FOd bOd gOd GOd FPk bPk gPk GPk   m_tuple m_isinstance m_len m_list m_int 4
  have GTo := ok_To (P := l.prog) (w := w) (base := base) (mg := mg) FTo FPb bPb gPb GPb gBP gVE gBV gNU gTM IBP x1 x2 x3 x4 m_isinstance m_int m_ValueError
  have GRi := ok_Ri (P := l.prog) (w := w) (base := base) (mg := mg) FRi  FDr bDr gDr GDr FWe bWe gWe GWe FVv bVv gVv GVv FVa bVa gVa GVa FSm bSm gSm GSm FPs bPs gPs GPs FBo bBo gBo GBo FTo bTo gTo GTo FCh bCh gCh GCh FAp bAp gAp GAp   m_len m_range m_repr
  exact ok_Law (P := l.prog) (w := w) (base := base) FLaw  FSt bSt gSt GSt FPl bPl gPl GPl FRi bRi gRi GRi FSl bSl gSl GSl FVs bVs gVs GVs   m_range
end Pv

open PySem PySem.W PyProof.Rows
set_option maxRecDepth 100000 in
set_option maxHeartbeats 0 in
theorem PySem.Challenge.cw_postvote_k38_values_and_bounds_holds : PySem.Challenge.rw_postvote_k38_values_and_bounds.Holds := by
  w_on; o_law; k_head; (case hw => w_witness2)
  k_fill
  refine Pv.walkG (l := PySem.Challenge.rw_postvote_k38_values_and_bounds) (n := 63) (k := 10) (x := "_law_script") (sp := fun w => Pv.spLaw _) rfl (by decide) rfl ⟨rfl, by decide, by decide⟩ (fun w h Y => PySem.W.kIn_of Y) ?F (fun _ _ a ns hl _ _ hS => ⟨a, ns, rfl, hS, hl, fun _ => rfl⟩)
  case F =>
    intro w mg fa h KX G hmg
    refine' Pv.all_mk KX G hmg ?aWhole ?lWhole ?cWhole ?kWhole ?aWithin ?lWithin ?cWithin ?kWithin ?aTupOf ?lTupOf ?cTupOf ?kTupOf ?aOpt ?lOpt ?cOpt ?kOpt ?aDem ?lDem ?cDem ?kDem ?aExc ?lExc ?cExc ?kExc ?aFre ?lFre ?cFre ?kFre ?aCla ?lCla ?cCla ?kCla ?aCro ?lCro ?cCro ?kCro ?aRes ?lRes ?cRes ?kRes ?aGr ?lGr ?cGr ?kGr ?aVv ?lVv ?cVv ?kVv ?aPb ?lPb ?cPb ?kPb ?aVp ?lVp ?cVp ?kVp ?aIp ?lIp ?cIp ?kIp ?aSt ?lSt ?cSt ?kSt ?aDr ?lDr ?cDr ?kDr ?aPk ?lPk ?cPk ?kPk ?aSm ?lSm ?cSm ?kSm ?aMx ?lMx ?cMx ?kMx ?aSl ?lSl ?cSl ?kSl ?aAm ?lAm ?cAm ?kAm ?aLi ?lLi ?cLi ?kLi ?aPl ?lPl ?cPl ?kPl ?aFi ?lFi ?cFi ?kFi ?aFa ?lFa ?cFa ?kFa ?aWh ?lWh ?cWh ?kWh ?aIv ?lIv ?cIv ?kIv ?aVs ?lVs ?cVs ?kVs ?aVa ?lVa ?cVa ?kVa ?aAp ?lAp ?cAp ?kAp ?aBo ?lBo ?cBo ?kBo ?aWe ?lWe ?cWe ?kWe ?aPs ?lPs ?cPs ?kPs ?aOd ?lOd ?cOd ?kOd ?aCh ?lCh ?cCh ?kCh ?aTo ?lTo ?cTo ?kTo ?aRi ?lRi ?cRi ?kRi ?aLaw ?lLaw ?cLaw ?kLaw ?z0 ?z1 ?z2 ?z3 ?z4 ?z5 ?z6 ?z7 ?z8 ?z9 ?z10 ?z11 ?z12 ?z13 ?z14 ?z15 ?z16 ?y0 ?rLIMIT ?aCBP ?iCBP ?aCVE ?iCVE ?aCBV ?iCBV ?aCNU ?iCNU ?aCTM ?iCTM ?xBP ?x1 ?x2 ?x3 ?x4
    (case aWhole => k_is); (case lWhole => k_is); (case cWhole => k_is); (case kWhole => k_is); (case aWithin => k_is); (case lWithin => k_is); (case cWithin => k_is); (case kWithin => k_is); (case aTupOf => k_is); (case lTupOf => k_is); (case cTupOf => k_is); (case kTupOf => k_is); (case aOpt => k_is); (case lOpt => k_is); (case cOpt => k_is); (case kOpt => k_is); (case aDem => k_is); (case lDem => k_is); (case cDem => k_is); (case kDem => k_is); (case aExc => k_is); (case lExc => k_is); (case cExc => k_is); (case kExc => k_is); (case aFre => k_is); (case lFre => k_is); (case cFre => k_is); (case kFre => k_is); (case aCla => k_is); (case lCla => k_is); (case cCla => k_is); (case kCla => k_is); (case aCro => k_is); (case lCro => k_is); (case cCro => k_is); (case kCro => k_is); (case aRes => k_is); (case lRes => k_is); (case cRes => k_is); (case kRes => k_is); (case aGr => k_is); (case lGr => k_is); (case cGr => k_is); (case kGr => k_is); (case aVv => k_is); (case lVv => k_is); (case cVv => k_is); (case kVv => k_is); (case aPb => k_is); (case lPb => k_is); (case cPb => k_is); (case kPb => k_is); (case aVp => k_is); (case lVp => k_is); (case cVp => k_is); (case kVp => k_is); (case aIp => k_is); (case lIp => k_is); (case cIp => k_is); (case kIp => k_is); (case aSt => k_is); (case lSt => k_is); (case cSt => k_is); (case kSt => k_is); (case aDr => k_is); (case lDr => k_is); (case cDr => k_is); (case kDr => k_is); (case aPk => k_is); (case lPk => k_is); (case cPk => k_is); (case kPk => k_is); (case aSm => k_is); (case lSm => k_is); (case cSm => k_is); (case kSm => k_is); (case aMx => k_is); (case lMx => k_is); (case cMx => k_is); (case kMx => k_is); (case aSl => k_is); (case lSl => k_is); (case cSl => k_is); (case kSl => k_is); (case aAm => k_is); (case lAm => k_is); (case cAm => k_is); (case kAm => k_is); (case aLi => k_is); (case lLi => k_is); (case cLi => k_is); (case kLi => k_is); (case aPl => k_is); (case lPl => k_is); (case cPl => k_is); (case kPl => k_is); (case aFi => k_is); (case lFi => k_is); (case cFi => k_is); (case kFi => k_is); (case aFa => k_is); (case lFa => k_is); (case cFa => k_is); (case kFa => k_is); (case aWh => k_is); (case lWh => k_is); (case cWh => k_is); (case kWh => k_is); (case aIv => k_is); (case lIv => k_is); (case cIv => k_is); (case kIv => k_is); (case aVs => k_is); (case lVs => k_is); (case cVs => k_is); (case kVs => k_is); (case aVa => k_is); (case lVa => k_is); (case cVa => k_is); (case kVa => k_is); (case aAp => k_is); (case lAp => k_is); (case cAp => k_is); (case kAp => k_is); (case aBo => k_is); (case lBo => k_is); (case cBo => k_is); (case kBo => k_is); (case aWe => k_is); (case lWe => k_is); (case cWe => k_is); (case kWe => k_is); (case aPs => k_is); (case lPs => k_is); (case cPs => k_is); (case kPs => k_is); (case aOd => k_is); (case lOd => k_is); (case cOd => k_is); (case kOd => k_is); (case aCh => k_is); (case lCh => k_is); (case cCh => k_is); (case kCh => k_is); (case aTo => k_is); (case lTo => k_is); (case cTo => k_is); (case kTo => k_is); (case aRi => k_is); (case lRi => k_is); (case cRi => k_is); (case kRi => k_is); (case aLaw => k_is); (case lLaw => k_is); (case cLaw => k_is); (case kLaw => k_is); (case z0 => k_is); (case z1 => k_is); (case z2 => k_is); (case z3 => k_is); (case z4 => k_is); (case z5 => k_is); (case z6 => k_is); (case z7 => k_is); (case z8 => k_is); (case z9 => k_is); (case z10 => k_is); (case z11 => k_is); (case z12 => k_is); (case z13 => k_is); (case z14 => k_is); (case z15 => k_is); (case z16 => k_is); (case aCBP => k_is); (case iCBP => kernel_rfl); (case aCVE => k_is); (case iCVE => kernel_rfl); (case aCBV => k_is); (case iCBV => kernel_rfl); (case aCNU => k_is); (case iCNU => kernel_rfl); (case aCTM => k_is); (case iCTM => kernel_rfl); (case y0 => k_is); (case xBP => kernel_rfl); (case x1 => kernel_rfl); (case x2 => kernel_rfl); (case x3 => kernel_rfl); (case x4 => kernel_rfl); (case rLIMIT => exact ⟨_, rfl⟩)

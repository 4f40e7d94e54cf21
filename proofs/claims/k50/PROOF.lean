import PyProof.Rows.All
import Wide.All
import OpenK.AllK
import Wide.FinOn
import HandS.ForMost
import HandS.Conv
import HandS.Zip
import HandS.Walk
import HandS.IsInst
import HandS.Wide
import HandS.EndBits
import HandS.TupAny
import HandS.TupMul
import HandS.Style
import HandS.Deep
import HandS.NoneIn
import HandS.TupLe
import HandS.Dict
import KE.GoesMore
import KE.GoesZip
import HandS.Codes
import HandS.Exc
import HandS.ExcOwn
import HandS.WordsExc
import HandS.ExcField
import HandS.ExcInit
import KE.KExcIs
import HandS.Defaults
import HandS.MakeKwOnly
import PySem.Challenge.RW_postvote_k50_all_assignments_listed
set_option Elab.async false
set_option linter.all false
set_option maxRecDepth 100000
namespace Pv
open PySem PySem.Spec PyProof.Rows L2

/-! heaps -/
theorem upNew {H : Hp} {p b : Addr} {o z : HO} (np : H p = none) (h : H b = some z) : upd H p o b = some z := by
  rw [upd_ne (ne_of_none h np)]; exact h
theorem sameNew {H : Hp} {p : Addr} {o : HO} (np : H p = none) : Same H (upd H p o) := fun _ _ e => upNew np e

/-! a def that is called where no repr is under way -/
structure FnG (P : Program) (w : World) (K : PySem.W.Frag) (mg : Str → Option Value) (base : Heap) (k : Nat) (f : Addr) (fd : FuncData) (ps : List Str) (sp : Sp) : Prop where
  cnt : ∀ vs H Q E, sp vs H Q E → vs.length = ps.length
  go : ∀ (A : Around) (outer : List Env) (s : Shared) (H : Hp) (args : Args) (us : List Value) (vs : List V) (Q : VK) (E : XK),
    A.guards = some [] → Room k A → Env0 P w K mg base A outer s H → BindsTo s fd args (ps.zip us) → Vals vs us →
    sp vs H Q E → codeAny (model P w) A (.call (.ref f) args) (CR CX0 outer P w H s Q E) s
section
variable {P : Program} {w : World} {K : PySem.W.Frag} {mg : Str → Option Value} {base : Heap}
theorem okG {x qual : Str} {st : Stmt} {f : Addr} {fd : FuncData} {N ps : List Str} {k : Nat} {sp : Sp}
    (F : Fun K x qual st f fd) (S : FnScope N ps (defScope st)) (cnt : ∀ vs H Q E, sp vs H Q E → vs.length = ps.length)
    (hbody : ∀ (cdv : Value) (A : Around) (outer : List Env) (s : Shared) (H : Hp) (vs : List V) (Q : VK) (E : XK),
      A.guards = some [] → Room k (A.deeper (envOfC qual (defScope st) s.heap.objs.size f cdv)) → sp vs H Q E →
      ∃ t, PSs (cxOf CX0 P w K mg base N qual (defScope st) f cdv A outer s H E).nox (defBody st) t ∧
        t { nx := fun _ H' => Q .non H', rt := Q } (start N vs) H) : FnG P w K mg base (k + 1) f fd ps sp := by
  obtain ⟨oc, od, kV, doc, pm, an, cdv, ct, osl, rfl, lk, hcd⟩ := F.ex
  refine ⟨cnt, ?_⟩
  intro A outer s H args us vs Q E hgd hr e0 hb r hsp
  have hl := cnt vs H Q E hsp
  have kk : ∀ b o, base.get? b = some o → s.heap.get? b = some o := fun b o e => (e0.bs b o e).1
  have KX : K.In s.heap := e0.mod.kin.keeps kk
  have lim : s.heap.NoLimit := e0.mod.nolimit.keeps kk
  refine codeAny_call_function hr.depth (KX _ _ lk) rfl S.co S.gen rfl (PySem.W.codeRec_of KX hcd)
    (hb _ _ _ _ (wpAny_newFunctionEnv_cells S.kind ?_ ?_))
  · rintro ⟨n, v⟩ hy
    rcases S.par n (List.of_mem_zip hy).1 with q | q
    · left; exact q
    · right; exact ⟨q, PySem.W.cellsFrom_some _ _ _ (Or.inl q)⟩
  · intro env he s1 x
    cases he
    refine ⟨lim.keeps x.toInCall.keep, ?_⟩
    apply codeAny_func
    obtain ⟨t, ht0, hq⟩ := hbody cdv A outer s H vs Q E hgd (hr.deeper _) hsp
    have ht := ht0.nox
    have I := inv_start (CX := CX0) (f := f) (qual := qual) (E := E) S hr.hd e0 hl r x
    refine wpAny_mono (ht.run [] s1 (start N vs) H _ I hq) ?_ (fun _ _ z => z)
    intro fl s' hs
    cases fl with
    | ret u => obtain ⟨v, σ', H', J, rv, q⟩ := hs; exact ⟨v, H', J.os, J.bare, J.base, J.hok, rv, q⟩
    | next => obtain ⟨σ', H', J, q⟩ := hs; exact ⟨V.non, H', J.os, J.bare, J.base, J.hok, rfl, q⟩
    | brk => obtain ⟨_, _, _, q⟩ := hs; exact q.elim
    | cont => obtain ⟨_, _, _, q⟩ := hs; exact q.elim
end
section
variable {X : Cx} {k : Nat} {f : Addr} {fd : FuncData} {ps : List Str} {sp : Sp} {x : Str} {p pos : Pos} {e : Expr} {es : List Expr} {t : TA}
theorem pe_callG (F : FnG X.prog X.w X.K X.mg X.base k f fd ps sp) (hgd : X.A.guards = some []) (hr : Room k X.A) (hg : Gl X x)
    (hm : X.mg x = some (.ref f)) (hk : PySem.W.keepIn X.K (.ref f) = true) (hb : Binds X.K fd ps []) (ha : PA X (e :: es) t)
    (hdb : (x == ("__debug__" : Str)) = false := by decide) (he : starEach (e :: es) X.env = (false, eval e X.env) :: starEach es X.env := by rfl)
    (hpl : (backTo pos (starEach es X.env)).any (·.1) = false := by rfl) :
    PE X (.Call (.Name x p) (e :: es) [] pos) (tCall sp [] E0 t) := by
  constructor
  intro pins s σ H Q I h
  refine wpAny_Call_Name_kw (ld_glob I hg hm ?_ hdb)
  refine PySem.W.callWith_K (h₀ := X.base) I.ok.mod.kin hk (thn (ha.run pos pins s σ H _ I h) ?_) he hpl
  rintro us s1 ⟨vs, H1, I1, r, q⟩
  refine ⟨I1.kIn, ?_⟩
  have r2 : Vals (vs ++ []) (us ++ []) := r.append .nil
  have hl : (us ++ []).length = ps.length := by rw [← r2.length]; exact F.cnt _ _ _ _ q
  refine wpAny_call (codeAny_mono (F.go X.A X.stack s1 H1 ⟨us, []⟩ (us ++ []) (vs ++ []) Q E0 hgd hr I1.env0 (hb s1 us I1.kIn hl) r2 q) ?_)
  intro rr s' hq
  match rr, hq with
  | .error e, hq => exact hq.elim
  | .ok (.ret u), hq => exact I1.after hq
  | .ok .next, hq => exact hq.elim
  | .ok .brk, hq => exact hq.elim
  | .ok .cont, hq => exact hq.elim
end
theorem lawG {P : Program} {w : World} {K : PySem.W.Frag} {mg mb : Str → Option Value} {k : Nat} {fa a : Addr} {fd : FuncData} {x : Str} {sp : Sp}
    {s₁ : Shared} {vs : List Value} {ns : List Int} (KX : K.In s₁.heap) (hns : s₁.heap.Ns mainGlobals mg) (hb : s₁.heap.Ns builtinsNs mb)
    (hbb : ∀ x : Str, x ≠ "__name__" → mb x = bootBuiltins x) (hlim : s₁.heap.NoLimit) (hg : s₁.gens = #[])
    (ha : s₁.heap.get? a = some { cls := .type "list", data := .seq vs.toArray }) (hi : IntsAre vs ns) (hl : ns.length ≤ sizeLine)
    (hr : Room k callerA) (F : ∀ base : Heap, K.In base → base.Ns mainGlobals mg → FnG P w K mg base k fa fd [x] sp)
    (hbind : ∀ (s : Shared) (u : Value), BindsTo s fd ⟨[u], []⟩ [(x, u)])
    (hsp : ∀ H : Hp, Only H → SqL K H a (ns.map V.int) → sp [.ref a] H (fun v _ => v = .bl true) E0) :
    codeAny (model P w) callerA (.call (.ref fa) ⟨[.ref a], []⟩)
      (fun r s' => r = .ok (.ret (.bool true)) ∧ OldK s₁.heap s'.heap ∧ s'.os = s₁.os ∧ AllBare s'.gens) s₁ := by
  have rv := vals_ints hi
  have lenV := hi.length
  have core : ∀ H : Hp, Only H → SqL K H a (ns.map V.int) → HOk P w H s₁.heap → (∀ b, H b ≠ none → b = a) → (H a ≠ none → K.lookup a = none) →
      codeAny (model P w) callerA (.call (.ref fa) ⟨[.ref a], []⟩)
        (fun r s' => r = .ok (.ret (.bool true)) ∧ OldK s₁.heap s'.heap ∧ s'.os = s₁.os ∧ AllBare s'.gens) s₁ := by
    intro H hO hS hok hA hK
    have noD : ∀ {b : Addr} {o : Obj} {es : Array DictEntry} {ep : Nat}, s₁.heap.get? b = some o → o.data = .dict es ep → H b = none := by
      intro b o es ep e d
      match q : H b with
      | none => rfl
      | some u =>
        obtain rfl : b = a := hA b (by rw [q]; simp)
        rw [ha] at e
        cases e
        exact absurd d (by intro z; cases z)
    have nsK : ∀ {b : Addr} {m : Str → Option Value}, s₁.heap.Ns b m → (hidT s₁.heap H).Ns b m := by
      rintro b m ⟨o, es, ep, e, d, r⟩
      exact ⟨o, es, ep, hidT_get e (noD e d), d, r⟩
    have hKb : K.In (hidT s₁.heap H) := by
      intro b o e
      refine hidT_get (KX b o e) ?_
      match q : H b with
      | none => rfl
      | some u =>
        obtain rfl : b = a := hA b (by rw [q]; simp)
        rw [hK (by rw [q]; simp)] at e
        cases e
    have hM : Mod K mg (hidT s₁.heap H) := by
      obtain ⟨mc, h1, h2⟩ := hlim
      exact ⟨hKb, nsK hns, ⟨mb, nsK hb, hbb⟩, ⟨mc, nsK h1, h2⟩⟩
    have e0 : Env0 P w K mg (hidT s₁.heap H) callerA [] s₁ H :=
      ⟨rfl, hM, fun b o e => of_hidT e, Nat.le_of_eq (hidT_size _ _), trivial, (fun b hb => by cases hb), hok, .of_eq hg⟩
    refine codeAny_mono ((F _ hKb (nsK hns)).go callerA [] s₁ H ⟨[.ref a], []⟩ [.ref a] [.ref a] _ _ rfl hr e0 (hbind s₁ (.ref a)) (.cons rfl .nil) (hsp H hO hS)) ?_
    intro r s' h
    match r, h with
    | .error e, h => exact h.elim
    | .ok .next, h => exact h.elim
    | .ok .brk, h => exact h.elim
    | .ok .cont, h => exact h.elim
    | .ok (.ret u), h =>
      obtain ⟨v, H', os, bare, un, hok', r', q⟩ := h
      cases (show v = V.bl true from q)
      cases (show u = Value.bool true from r')
      refine ⟨rfl, OldK.of_keep ?_, os, bare⟩
      intro b o e
      match q : H b with
      | none => exact un.keep b o e q (by intro z; cases z) (by intro z; cases z)
      | some u =>
        rcases hO b with z | ⟨ob, xs, z⟩
        · rw [q] at z; cases z
        · obtain ⟨e1, _⟩ := hok b _ z
          obtain ⟨e2, _⟩ := hok' b _ (un.frzs b ob _ z)
          rw [e] at e1
          cases e1
          exact e2
  match hk : K.lookup a with
  | some o =>
    have e := KX a o hk
    rw [ha] at e
    cases e
    refine core (fun _ => none) (fun _ => .inl rfl) (.inr ⟨_, vs.toArray, _, hk, rfl, rfl, rfl, ?_, by simpa using rv⟩) (fun b u z => by cases z) (fun b z => absurd rfl z) (fun z => absurd rfl z)
    rw [List.size_toArray, lenV]; exact hl
  | none =>
    let HA : Hp := fun b => if b = a then some (.frz { cls := .type "list", data := .seq vs.toArray } (.lst (ns.map V.int))) else none
    have at_a : HA a = some (.frz { cls := .type "list", data := .seq vs.toArray } (.lst (ns.map V.int))) := if_pos rfl
    have at_ne : ∀ b, b ≠ a → HA b = none := fun b h => if_neg h
    refine core HA ?_ (.inl (.inr ⟨_, at_a⟩)) ?_ ?_ (fun _ => hk)
    · intro b
      by_cases hb : b = a
      · subst hb; exact .inr ⟨_, _, at_a⟩
      · exact .inl (at_ne b hb)
    · intro b u z
      by_cases hb : b = a
      · subst hb
        rw [at_a] at z
        cases z
        exact ⟨ha, by rw [List.length_map]; exact hl, vs, _, rv, ha⟩
      · rw [at_ne b hb] at z; cases z
    · intro b z
      by_cases hb : b = a
      · exact hb
      · exact absurd (at_ne b hb) z
theorem walkG {l : PySem.W.OpenLaw} {n k : Nat} {q : Program} {loose : List Str} {XP : (Str → Option Value) → Heap → Prop} {YP : World → Heap → Prop}
    {d : DefRec} {K : Params → PySem.W.Frag} {sp : World → Sp} {x : Str} (hn : l.most = some n) (hn2 : n ≤ sizeLine) (hdf : d.params.defaults = [])
    (hr : Room k callerA) (hY : ∀ (w : World) (h : Heap), YP w h → (K w.params).In h)
    (F : ∀ (w : World) (mg : Str → Option Value) (fa : Addr) (h : Heap), (K w.params).In h → h.Ns mainGlobals mg → mg d.name = some (.ref fa) →
      ∃ fd : FuncData, (∀ (s : Shared) (u : Value), BindsTo s fd ⟨[u], []⟩ [(x, u)]) ∧
        ∀ base : Heap, (K w.params).In base → base.Ns mainGlobals mg → FnG l.prog w (K w.params) mg base k fa fd [x] (sp w))
    (hsp : ∀ (w : World) (H : Hp) (a : Addr) (ns : List Int), ns.length ≤ n → (∀ z ∈ ns, Builtin.Int.intBits z ≤ 1048576) → Only H →
      SqL (K w.params) H a (ns.map V.int) → sp w [.ref a] H (fun v _ => v = .bl true) E0) :
    PySem.W.WalkO q loose XP YP l.row.toRowW d [] (fun f vs => PySem.call f vs) := by
  refine Att.attach_callB hn hdf ?_
  intro w s₀ s₁ mg mb fa o pm cd doc a vs ns G Y ho hd hcd hmg hobj hints hlen hbits hg
  have KX := hY w _ Y
  obtain ⟨fd, hb, hF⟩ := F w mg fa _ KX G.T.g hmg
  exact lawG KX G.T.g G.T.b G.T.builtins G.T.nolimit hg hobj hints (Nat.le_trans hlen hn2) hr hF hb (fun H hO hS => hsp w H a ns hlen hbits hO hS)

/-! repr of data -/
theorem call_reprD {X : Cx} (hg : X.A.guards = some []) (hu : X.A.units + 70 < cLine) : CallR X (.builtin "repr")
    (fun xs H Q => ∃ a d, xs = [.ref a] ∧ Dp X.K H (.ref a) d ∧ d.showable = true ∧ d.hasDict = false ∧ d.depth ≤ 60 ∧
      d.shown.length ≤ sizeLine ∧ Q (.str d.shown) H) := by
  intro pins s σ H xs us Q I r h
  obtain ⟨a, d, rfl, hd, h1, h2, h3, h4, q⟩ := h
  obtain ⟨u, rfl, rfl⟩ := vals1 r
  obtain ⟨as, rd⟩ := Dp.reads I d _ _ hd rfl
  exact repr_of_reads' rd h1 (PyData.noDict_hsm h2) hg (by omega) (fun _ _ e => e) (fun h' u tk hk => ⟨.str _, H, I.kept hk, ⟨_, rfl⟩, q⟩) h4
end Pv

namespace Pv
open PySem PySem.Spec PyProof.Rows L2
theorem tup_mul0 (l : Addr) (items : Array Value) (n : Nat) (dd : Option Addr) (sl : Array (Option Value)) (u : Tok) (hi : items.isEmpty = false) :
    Meets (Builtin.«tuple.__mul__» ⟨[.ref l, .int ((0 : Nat) : Int) u], []⟩) (fun _ R s => s.heap.get? l = some { cls := .type "tuple", dict := dd, data := .seq items n, slots := sl } ∧
      R (.ok (.ret (Value.ref s.heap.objs.size))) { s with heap := s.heap.push { cls := Value.type "tuple", data := Data.seq #[] }, toks := s.toks }) :=
  .of_wp fun prog w A R s h => by
    obtain ⟨hp, g, d, tk, os⟩ := s
    obtain ⟨hl, h⟩ := h
    have f1 := AutoSeq1.idx_int
    wp_walk using AutoSeq1.wpAny_loadPart' hl
    repeat (first
      | (refine wpAny_ite_false (decide_eq_false (by simp [hi])) ?_; wp_walk using AutoSeq1.wpAny_loadPart' hl)
      | (refine wpAny_ite_true (decide_eq_true (by simp [hi])) ?_; wp_walk using AutoSeq1.wpAny_loadPart' hl))
    exact ⟨_, rfl, h⟩
theorem tup_mul1 (l : Addr) (items : Array Value) (n : Nat) (dd : Option Addr) (sl : Array (Option Value)) (u : Tok) :
    Meets (Builtin.«tuple.__mul__» ⟨[.ref l, .int ((1 : Nat) : Int) u], []⟩) (fun _ R s => s.heap.get? l = some { cls := .type "tuple", dict := dd, data := .seq items n, slots := sl } ∧
      R (.ok (.ret (Value.ref l))) s) :=
  .of_wp fun prog w A R s h => by
    obtain ⟨hp, g, d, tk, os⟩ := s
    obtain ⟨hl, h⟩ := h
    have f1 := AutoSeq1.idx_int
    wp_walk using AutoSeq1.wpAny_loadPart' hl
    repeat (first
      | (refine wpAny_ite_false (decide_eq_false (by simp)) ?_; wp_walk using AutoSeq1.wpAny_loadPart' hl)
      | (refine wpAny_ite_true (decide_eq_true (by simp)) ?_; wp_walk using AutoSeq1.wpAny_loadPart' hl))
    exact ⟨_, rfl, h⟩
def rRepA (K : PySem.W.Frag) : R2 := fun x y H Q => ∃ (l : Addr) (k : Nat) (xs : List V), x = .ref l ∧ y = .int k ∧ SqT K H l xs ∧ xs ≠ [] ∧ k ≤ 1000 ∧ xs.length ≤ 1000 ∧
    (k = 1 → Q (.ref l) H) ∧ (k ≠ 1 → ∀ p, H p = none → Q (.ref p) (upd H p (.tup (List.replicate k xs).flatten)))
abbrev RC := List V → Hp → VK → Prop
def rLenQ (K : PySem.W.Frag) : RC := fun xs H Q => ∃ (p : Addr) (ys : List V), xs = [.ref p] ∧ (SqL K H p ys ∨ SqT K H p ys) ∧ Q (.int ys.length) H
def rTupQ (K : PySem.W.Frag) : RC := fun xs H Q => ∃ (p : Addr) (ys : List V), xs = [.ref p] ∧ ((SqL K H p ys ∧ ∀ l, H l = none → Q (.ref l) (upd H l (.tup ys))) ∨ (SqT K H p ys ∧ Q (.ref p) H))
section
variable {X : Cx}
theorem call_lenQ : CallR X (.builtin "len") (rLenQ X.K) := call_len_seq
theorem call_tupQ : CallR X (.type "tuple") (rTupQ X.K) := call_tuple_of
/-- o[i] of a list, for o[i] += e -/
theorem get_list : PGet X (fun o i H Q => ∃ (p : Addr) (xs : List V) (j : Nat) (v : V), o = .ref p ∧ i = .int j ∧ SqL X.K H p xs ∧ xs[j]? = some v ∧ Q v H) := by
  intro pins s σ H o i ov iv Q I ro ri h
  obtain ⟨p, xs, j, v, rfl, rfl, hq, he, q⟩ := h
  cases ro
  obtain ⟨t, rfl⟩ := ri
  obtain ⟨its, r, pl, hz⟩ := I.list hq
  obtain ⟨u, eu, ru⟩ := r.get he
  have hj : j < its.length := (List.getElem?_eq_some_iff.mp eu).1
  have hl := r.length
  have hn := line63
  exact wpAny_getItem_list pl.isList (by omega) (by omega) (by simpa using eu) ⟨v, H, I, ru, q⟩
/-- tuple * int -/
theorem op_repA : OpR X (binaryOp .Mult) (rRepA X.K) := by
  intro pins s σ H x y v u Q I rx ry h
  obtain ⟨l, k, xs, rfl, rfl, hT, hne, h2, hz, q1, q2⟩ := h
  by_cases hk2 : 2 ≤ k
  · exact op_repT pins s σ H _ _ v u Q I rx ry ⟨l, k, xs, rfl, rfl, hT, hne, by omega, by omega, hz, by simpa using q2 (by omega)⟩
  cases rx
  obtain ⟨t, rfl⟩ := ry
  obtain ⟨its, r, ⟨⟨cls, dd, data, sl⟩, ho, hc, n, hd⟩, hs⟩ := I.tuple hT
  simp only at hc hd
  subst hc hd
  have hi : its.toArray.isEmpty = false := by
    cases its with
    | nil => exact absurd (List.eq_nil_of_length_eq_zero (by simpa using r.length)) hne
    | cons a b => rfl
  refine wpAny_binaryOp_repeat_ref (T := "tuple") (U := "int") (by decide) ⟨_, ho, rfl⟩ (fun s' => typeIs_int s' k t) noFill_tuple_mul F.fills_int_mul F.slot_int_rmul repeat_tuple F.slot_int_index.lookup
    (call_meets F.slot_int_rmul (typeIs_int s k t) F.entry_int_rmul (F.args_int_rmul_2 _ _) (int_rmul_tuple k t l its.toArray n dd sl)
      ⟨ho, rfl, ⟨_, ho, rfl⟩, ?_⟩)
  obtain hk | hk : k = 0 ∨ k = 1 := by omega
  · subst hk
    refine call_meets F.slot_tuple_mul (show s.TypeIs (.ref l) "tuple" from ⟨_, ho, rfl⟩) F.entry_tuple_mul (F.args_tuple_mul_2 _ _) (tup_mul0 l its.toArray n dd sl t hi) ⟨ho, ?_⟩
    refine ⟨.ref s.heap.objs.size, _, I.laid (t' := s.toks) (o := .tup []) (fun b ob q => Heap.get?_push_of_some _ q) (Nat.le_refl _) ?_, rfl, q2 (by decide) _ (I.hok.fresh (Nat.le_refl _))⟩
    exact ⟨Nat.zero_le _, [], .nil, IsTup.new _ _⟩
  · subst hk
    exact call_meets F.slot_tuple_mul (show s.TypeIs (.ref l) "tuple" from ⟨_, ho, rfl⟩) F.entry_tuple_mul (F.args_tuple_mul_2 _ _) (tup_mul1 l its.toArray n dd sl t) ⟨ho, ⟨.ref l, H, I, rfl, q1 rfl⟩⟩
/-- sum of a tuple of ints -/
theorem call_sumT (hc : X.calm = true) : CallR X (.builtin "sum") (fun xs H Q => ∃ (a : Addr) (ns : List Int), xs = [.ref a] ∧ SqT X.K H a (ns.map V.int) ∧ Q (.int ns.sum) H) := by
  intro pins s σ H xs us Q I r h
  obtain ⟨a, ns, rfl, hT, q⟩ := h
  obtain ⟨u, rfl, rfl⟩ := vals1 r
  obtain ⟨its, rv, ht, hz⟩ := I.tuple hT
  have hi : IntsAre its ns := rv.ints
  obtain ⟨ys, e⟩ := hi.allInts.items
  have hn : numsOf (intItems ys).toList = ns := by rw [← e]; exact hi.numsOf
  rw [nums_intItems] at hn
  rw [e] at ht
  have ht' : s.heap.IsTuple a (intItems ys) := ht
  have hlt : a < s.heap.objs.size := by obtain ⟨_, z, _⟩ := ht; exact Heap.lt_size z
  refine call_sum_walkG (wpAny_pyIter_tuple ht' ?_)
  refine ⟨_, _, _, _, _, _, numAt ys, rfl, Walks.tuple (A := X.A.in1) (I.ok.hd hc) _ a (Nat.ne_of_lt hlt) (intItems ys), ⟨⟨_, Heap.get?_push_size _ rfl, rfl, rfl⟩, ht'.push _⟩, ?_, (fun _ _ => intItems_at), ?_⟩
  · intro b hb
    show b < (s.heap.push _).objs.size
    rw [Heap.size_push]
    simp only [List.mem_cons, List.not_mem_nil, or_false] at hb
    rcases hb with rfl | rfl
    · exact Nat.lt_succ_self _
    · exact Nat.lt_succ_of_lt hlt
  · intro h' tk t' hk
    have eq : preSum (numAt ys) (intItems ys).size = ns.sum := by
      rw [preSum_eq, List.take_of_length_le (by simp [intItems]), hn]
    rw [eq]
    refine ⟨.int _, H, I.kept (t' := tk) (h' := h') ?_, ⟨_, rfl⟩, q⟩
    intro b o eb
    refine hk b o (fun hm => ?_) (Heap.get?_push_of_some _ eb)
    exact absurd (Heap.lt_size eb) ((List.mem_singleton.mp hm) ▸ Nat.lt_irrefl _)
end
theorem walk_zipT {K : PySem.W.Frag} {a b : Addr} {xs ys : List V} {n : Nat} (hn : n = min xs.length ys.length) :
    Walk (RZ.ItzT K a b) n (fun H => SqT K H a xs ∧ SqT K H b ys) (YPair (fun i => xs[i]?) (fun i => ys[i]?)) := by
  subst hn
  constructor
  · rintro i H hi ⟨q1, q2⟩
    have h1 : i < xs.length := by omega
    have h2 : i < ys.length := by omega
    exact ⟨xs, ys, xs[i], ys[i], q1, q2, by simp [h1], by simp [h2]⟩
  · rintro H ⟨q1, q2⟩
    exact ⟨xs, ys, q1, q2, by omega⟩
  · rintro i H v H' _ ⟨q1, q2⟩ ⟨T, x, z, h1, h2, h3, h4, h5⟩
    exact ⟨T, x, z, h1, h2, h3, h4 xs q1, h5 ys q2⟩
end Pv

namespace Pv
open PySem PySem.Spec PyProof.Rows L2

/-! tuples never change -/
def TupK (H H' : Hp) : Prop := ∀ b xs, (H b = some (.tup xs) → H' b = some (.tup xs)) ∧ ∀ u, H b = some (.frz u (.tup xs)) → H' b = some (.frz u (.tup xs))
theorem TupK.refl (H : Hp) : TupK H H := fun _ _ => ⟨id, fun _ => id⟩
theorem TupK.trans {H H1 H2 : Hp} (a : TupK H H1) (b : TupK H1 H2) : TupK H H2 := fun c xs => ⟨fun h => (b c xs).1 ((a c xs).1 h), fun u h => (b c xs).2 u ((a c xs).2 u h)⟩
theorem TupK.rd {H H' : Hp} (s : TupK H H') {b : Addr} {xs : List V} (h : Rd H b (.tup xs)) : Rd H' b (.tup xs) := by
  rcases h with h | ⟨o, h⟩
  · exact .inl ((s _ _).1 h)
  · exact .inr ⟨o, (s _ _).2 o h⟩
theorem TupK.of {H H' : Hp} (s : Same H H') : TupK H H' := fun _ _ => ⟨fun h => s _ _ h, fun _ h => s _ _ h⟩
theorem TupK.new {H : Hp} {p : Addr} {o : HO} (np : H p = none) : TupK H (upd H p o) := .of (sameNew np)
theorem TupK.put {H : Hp} {p : Addr} {o : HO} {ys : List V} (e : H p = some (.lst ys)) : TupK H (upd H p o) := by
  intro b xs
  refine ⟨fun h => ?_, fun u h => ?_⟩
  · rw [upd_ne (ne_of h e (by intro z; cases z))]; exact h
  · rw [upd_ne (ne_of h e (by intro z; cases z))]; exact h
theorem TupK.sq {K : PySem.W.Frag} {H H' : Hp} {a : Addr} {xs : List V} (s : TupK H H') (h : SqT K H a xs) : SqT K H' a xs := by
  rcases h with h | h
  · exact .inl (s.rd h)
  · exact .inr h

mutual
def tupOnly : PyData → Bool
  | .none | .bool _ | .int _ | .str _ => true
  | .tuple xs => tupOnlyAll xs
  | .list _ | .dict _ => false
def tupOnlyAll : List PyData → Bool
  | [] => true
  | x :: xs => tupOnly x && tupOnlyAll xs
end
mutual
theorem TupK.dp {K : PySem.W.Frag} {H H' : Hp} (s : TupK H H') : ∀ (d : PyData) (v : V), tupOnly d = true → Dp K H v d → Dp K H' v d
  | .none, v, _, h => by cases h; exact .non
  | .bool b, v, _, h => by cases h; exact .bl _
  | .int b, v, _, h => by cases h; exact .int _
  | .str b, v, _, h => by cases h; exact .str _
  | .tuple xs, v, t, h => by
    cases h with
    | tup hs ha => exact .tup (s.sq hs) (TupK.dpAll s xs _ (by simpa [tupOnly] using t) ha)
  | .list _, v, t, _ => by simp [tupOnly] at t
  | .dict _, v, t, _ => by simp [tupOnly] at t
theorem TupK.dpAll {K : PySem.W.Frag} {H H' : Hp} (s : TupK H H') : ∀ (ds : List PyData) (vs : List V), tupOnlyAll ds = true → DpAll K H vs ds → DpAll K H' vs ds
  | [], vs, _, h => by cases h; exact .nil
  | d :: ds, vs, t, h => by
    have t' : tupOnly d = true ∧ tupOnlyAll ds = true := by simpa [tupOnlyAll] using t
    cases h with
    | cons h1 h2 => exact .cons (TupK.dp s d _ t'.1 h1) (TupK.dpAll s ds _ t'.2 h2)
end
theorem tupOnlyAll_of {ds : List PyData} (h : ∀ d ∈ ds, tupOnly d = true) : tupOnlyAll ds = true := by
  induction ds with
  | nil => simp [tupOnlyAll]
  | cons d ds ih => simp [tupOnlyAll, h d (by simp), ih (fun e he => h e (by simp [he]))]

/-! data -/
abbrev Gp := List Int × Int
def dI (ns : List Int) : PyData := .tuple (ns.map .int)
def dGrp (g : Gp) : PyData := .tuple [dI g.1, .int g.2]
def dInst (cs : List Int) (gs : List Gp) : PyData := .tuple [dI cs, .tuple (gs.map dGrp)]
def dAsg (rows : List (List Int)) : PyData := .tuple (rows.map dI)
theorem to_ints (ns : List Int) : tupOnlyAll (ns.map PyData.int) = true := tupOnlyAll_of (by intro d hd; obtain ⟨n, _, rfl⟩ := List.mem_map.mp hd; simp [tupOnly])
theorem to_dI (ns : List Int) : tupOnly (dI ns) = true := by simp [dI, tupOnly, to_ints]
theorem to_dGrp (g : Gp) : tupOnly (dGrp g) = true := by simp [dGrp, tupOnly, tupOnlyAll, to_dI]
theorem to_grps (gs : List Gp) : tupOnlyAll (gs.map dGrp) = true := tupOnlyAll_of (by intro d hd; obtain ⟨n, _, rfl⟩ := List.mem_map.mp hd; exact to_dGrp n)
theorem to_rows (rs : List (List Int)) : tupOnlyAll (rs.map dI) = true := tupOnlyAll_of (by intro d hd; obtain ⟨n, _, rfl⟩ := List.mem_map.mp hd; exact to_dI n)
theorem to_dInst (cs : List Int) (gs : List Gp) : tupOnly (dInst cs gs) = true := by simp [dInst, tupOnly, tupOnlyAll, to_dI, to_grps]
theorem to_dAsg (rs : List (List Int)) : tupOnly (dAsg rs) = true := by simp [dAsg, tupOnly, to_rows]

section
variable {K : PySem.W.Frag} {H : Hp}
theorem DpAll.len : ∀ {vs : List V} {ds : List PyData}, DpAll K H vs ds → vs.length = ds.length
  | _, _, .nil => rfl
  | _, _, .cons _ t => by simp [DpAll.len t]
theorem DpAll.ints : ∀ {ns : List Int} {vs : List V}, DpAll K H vs (ns.map PyData.int) → vs = ns.map V.int
  | [], _, h => by cases h; rfl
  | n :: ns, _, h => by
    cases h with
    | cons h1 h2 => cases h1; rw [DpAll.ints h2]; rfl
theorem dp_ints : ∀ (ns : List Int), DpAll K H (ns.map V.int) (ns.map PyData.int)
  | [] => .nil
  | n :: ns => .cons (.int n) (dp_ints ns)
theorem DpAll.at : ∀ {vs : List V} {ds : List PyData} {i : Nat} {v : V}, DpAll K H vs ds → vs[i]? = some v → ∃ d, ds[i]? = some d ∧ Dp K H v d
  | _, _, _, _, .nil, e => by simp at e
  | _, _, 0, _, .cons h _, e => by simp at e; subst e; exact ⟨_, rfl, h⟩
  | _, _, i + 1, v, .cons _ t, e => by
    obtain ⟨d, h1, h2⟩ := DpAll.at (i := i) t (by simpa using e)
    exact ⟨d, by simpa using h1, h2⟩
theorem DpAll.snoc : ∀ {vs : List V} {ds : List PyData} {v : V} {d : PyData}, DpAll K H vs ds → Dp K H v d → DpAll K H (vs ++ [v]) (ds ++ [d])
  | _, _, _, _, .nil, h => .cons h .nil
  | _, _, _, _, .cons h t, h' => .cons h (DpAll.snoc t h')
theorem sq_dI {a : Addr} {ns : List Int} (h : Dp K H (.ref a) (dI ns)) : SqT K H a (ns.map V.int) := by
  cases h with
  | tup hs ha => rw [DpAll.ints ha] at hs; exact hs
theorem dI_sq {a : Addr} {ns : List Int} (h : SqT K H a (ns.map V.int)) : Dp K H (.ref a) (dI ns) := .tup h (dp_ints ns)
theorem dI_ref {v : V} {ns : List Int} (h : Dp K H v (dI ns)) : ∃ a, v = .ref a ∧ SqT K H a (ns.map V.int) := by
  cases h with
  | tup hs ha => rw [DpAll.ints ha] at hs; exact ⟨_, rfl, hs⟩
theorem grp_ref {v : V} {g : Gp} (h : Dp K H v (dGrp g)) : ∃ a p, v = .ref a ∧ SqT K H a [.ref p, .int g.2] ∧ SqT K H p (g.1.map V.int) := by
  cases h with
  | tup hs ha =>
    cases ha with
    | cons h1 h2 =>
      cases h2 with
      | cons h3 h4 =>
        cases h4
        cases h3
        obtain ⟨p, rfl, hp⟩ := dI_ref h1
        exact ⟨_, p, rfl, hs, hp⟩
theorem inst_open {v : V} {cs : List Int} {gs : List Gp} (h : Dp K H v (dInst cs gs)) :
    ∃ a c g xs, v = .ref a ∧ SqT K H a [.ref c, .ref g] ∧ SqT K H c (cs.map V.int) ∧ SqT K H g xs ∧ DpAll K H xs (gs.map dGrp) := by
  cases h with
  | tup hs ha =>
    cases ha with
    | cons h1 h2 =>
      cases h2 with
      | cons h3 h4 =>
        cases h4
        obtain ⟨c, rfl, hc⟩ := dI_ref h1
        cases h3 with
        | tup hg hx => exact ⟨_, c, _, _, rfl, hs, hc, hg, hx⟩
theorem asg_open {v : V} {rs : List (List Int)} (h : Dp K H v (dAsg rs)) : ∃ a xs, v = .ref a ∧ SqT K H a xs ∧ DpAll K H xs (rs.map dI) := by
  cases h with
  | tup hg hx => exact ⟨_, _, rfl, hg, hx⟩
end

/-! what repr wants of data -/
structure Fine (k B : Nat) (d : PyData) : Prop where
  sh : d.showable = true
  nd : d.hasDict = false
  dp : d.depth ≤ k
  ln : d.shown.length ≤ B
theorem Fine.mono {k k' B B' : Nat} {d : PyData} (h : Fine k B d) (hk : k ≤ k') (hB : B ≤ B') : Fine k' B' d := ⟨h.sh, h.nd, Nat.le_trans h.dp hk, Nat.le_trans h.ln hB⟩
theorem fine_int {i : Int} (h : i.natAbs < 10 ^ 20) : Fine 0 25 (.int i) := by
  refine ⟨?_, by simp [PyData.hasDict], by simp [PyData.depth], ?_⟩
  · simp only [PyData.showable, decide_eq_true_eq]
    have : i.natAbs.log2 < 100 := by
      by_cases h0 : i.natAbs = 0
      · rw [h0]; decide
      · exact (Nat.log2_lt h0).mpr (Nat.lt_trans h (by decide))
    omega
  · have e := int_text_length_le10 (k := 20) (by decide) h
    show (Str.ofString (toString i)).length ≤ 25
    rw [PySem.ofString_length]
    omega
theorem fine_all {k B : Nat} : ∀ {xs : List PyData}, (∀ x ∈ xs, Fine k B x) → PyData.showableAll xs = true ∧ PyData.hasDictAll xs = false ∧ PyData.depthAll xs ≤ k ∧ ((PyData.shownAll xs).map (·.length)).sum ≤ xs.length * B ∧ (PyData.shownAll xs).length = xs.length
  | [], _ => by simp [PyData.showableAll, PyData.hasDictAll, PyData.depthAll, PyData.shownAll]
  | x :: xs, h => by
    obtain ⟨h1, h2, h3, h4, h5⟩ := fine_all (xs := xs) (fun y hy => h y (by simp [hy]))
    have hx := h x (by simp)
    refine ⟨by simp [PyData.showableAll, hx.sh, h1], by simp [PyData.hasDictAll, hx.nd, h2], ?_, ?_, ?_⟩
    · simp only [PyData.depthAll]; have := hx.dp; omega
    · simp only [PyData.shownAll, List.map_cons, List.sum_cons, List.length_cons]; have := hx.ln; rw [Nat.succ_mul]; omega
    · simp [PyData.shownAll, h5]
theorem fine_tup {k B n : Nat} {xs : List PyData} (h : ∀ x ∈ xs, Fine k B x) (hn : xs.length ≤ n) : Fine (k + 1) (n * (B + 2) + 3) (.tuple xs) := by
  obtain ⟨h1, h2, h3, h4, h5⟩ := fine_all h
  refine ⟨by simp only [PyData.showable]; exact h1, by simp only [PyData.hasDict]; exact h2, by simp only [PyData.depth]; omega, ?_⟩
  simp only [PyData.shown]
  have e := tupleText_len_le (PyData.shownAll xs)
  rw [h5] at e
  have m : xs.length * (B + 2) ≤ n * (B + 2) := Nat.mul_le_mul_right _ hn
  rw [Nat.mul_add] at m
  omega
theorem fine_lst {k B n : Nat} {xs : List PyData} (h : ∀ x ∈ xs, Fine k B x) (hn : xs.length ≤ n) : Fine (k + 1) (n * (B + 2) + 3) (.list xs) := by
  obtain ⟨h1, h2, h3, h4, h5⟩ := fine_all h
  refine ⟨by simp only [PyData.showable]; exact h1, by simp only [PyData.hasDict]; exact h2, by simp only [PyData.depth]; omega, ?_⟩
  simp only [PyData.shown]
  have e := listText_len_le (PyData.shownAll xs)
  rw [h5] at e
  have m : xs.length * (B + 2) ≤ n * (B + 2) := Nat.mul_le_mul_right _ hn
  rw [Nat.mul_add] at m
  omega
theorem fine_dI {ns : List Int} {n : Nat} (h : ∀ i ∈ ns, i.natAbs < 10 ^ 20) (hn : ns.length ≤ n) : Fine 1 (n * 27 + 3) (dI ns) := by
  refine fine_tup (B := 25) ?_ (by simpa using hn)
  intro d hd
  obtain ⟨i, hi, rfl⟩ := List.mem_map.mp hd
  exact fine_int (h i hi)

/-! the drawing state of the law: a list of the cells, the rests and the turn -/
structure DS (H : Hp) (st c r : Addr) (t : Nat) : Prop where
  hs : H st = some (.lst [.ref c, .ref r, .int t])
  ex : ∃ cells rests : List Int, H c = some (.lst (cells.map V.int)) ∧ H r = some (.lst (rests.map V.int)) ∧ cells.length = rests.length ∧
    0 < cells.length ∧ cells.length ≤ 100 ∧ ∀ x ∈ rests, 0 ≤ x
  n1 : c ≠ r
  n2 : st ≠ c
  n3 : st ≠ r
def Ext (st r : Addr) (H H' : Hp) : Prop := ∀ b o, H b = some o → b ≠ st → b ≠ r → H' b = some o
section
variable {H H1 H2 : Hp} {st c r p : Addr} {t : Nat} {o : HO}
theorem Ext.trans (a : Ext st r H H1) (b : Ext st r H1 H2) : Ext st r H H2 := fun x o h n1 n2 => b x o (a x o h n1 n2) n1 n2
theorem Ext.of (s : Same H H1) : Ext st r H H1 := fun b o h _ _ => s b o h
theorem Ext.tup (d : DS H st c r t) (e : Ext st r H H1) : TupK H H1 := by
  obtain ⟨cells, rests, hc, hr, _⟩ := d.ex
  intro b xs
  refine ⟨fun h => ?_, fun u h => ?_⟩
  · exact e _ _ h (ne_of h d.hs (by intro z; cases z)) (ne_of h hr (by intro z; cases z))
  · exact e _ _ h (ne_of h d.hs (by intro z; cases z)) (ne_of h hr (by intro z; cases z))
theorem DS.same (d : DS H st c r t) (s : Same H H1) : DS H1 st c r t := by
  obtain ⟨cells, rests, hc, hr, q⟩ := d.ex
  exact ⟨s _ _ d.hs, ⟨cells, rests, s _ _ hc, s _ _ hr, q⟩, d.n1, d.n2, d.n3⟩
theorem DS.new (d : DS H st c r t) (np : H p = none) : DS (upd H p o) st c r t := d.same (sameNew np)
theorem DS.put (d : DS H st c r t) (h1 : p ≠ st) (h2 : p ≠ c) (h3 : p ≠ r) : DS (upd H p o) st c r t := by
  obtain ⟨cells, rests, hc, hr, q⟩ := d.ex
  exact ⟨by rw [upd_ne h1.symm]; exact d.hs, ⟨cells, rests, by rw [upd_ne h2.symm]; exact hc, by rw [upd_ne h3.symm]; exact hr, q⟩, d.n1, d.n2, d.n3⟩
/-- an address that was free while the state stood is none of its own -/
theorem DS.off (d : DS H st c r t) (np : H p = none) : p ≠ st ∧ p ≠ c ∧ p ≠ r := by
  obtain ⟨cells, rests, hc, hr, q⟩ := d.ex
  exact ⟨(ne_of_none d.hs np).symm, (ne_of_none hc np).symm, (ne_of_none hr np).symm⟩
end
end Pv

namespace Pv
open PySem PySem.Spec PyProof.Rows L2

/-! data of any kind: lists stand off the drawing state, dicts have leaves alone -/
def kD : Key → PyData
  | .inl i => .int i
  | .inr x => .str x
mutual
inductive Dq (K : PySem.W.Frag) (st r : Addr) (H : Hp) : V → PyData → Prop
  | non : Dq K st r H .non .none
  | bl (b : Bool) : Dq K st r H (.bl b) (.bool b)
  | int (i : Int) : Dq K st r H (.int i) (.int i)
  | str (x : Str) : Dq K st r H (.str x) (.str x)
  | lst {a : Addr} {xs : List V} {ds : List PyData} : H a = some (.lst xs) → a ≠ st → a ≠ r → a ≠ sysModules → DqAll K st r H xs ds → Dq K st r H (.ref a) (.list ds)
  | tup {a : Addr} {xs : List V} {ds : List PyData} : SqT K H a xs → DqAll K st r H xs ds → Dq K st r H (.ref a) (.tuple ds)
  | dct {a : Addr} {kvs : List (Key × Int)} : H a = some (.dK (kvs.map fun p => (p.1, V.int p.2))) → Dq K st r H (.ref a) (.dict (kvs.map fun p => (kD p.1, .int p.2)))
inductive DqAll (K : PySem.W.Frag) (st r : Addr) (H : Hp) : List V → List PyData → Prop
  | nil : DqAll K st r H [] []
  | cons {v : V} {vs : List V} {d : PyData} {ds : List PyData} : Dq K st r H v d → DqAll K st r H vs ds → DqAll K st r H (v :: vs) (d :: ds)
end
theorem keys_reads {P : Program} {w : World} {h : Heap} : ∀ {kvs : List (Key × Int)} {vs : List (Key × Value)} {es : List DictEntry}, KV (kvs.map fun p => (p.1, V.int p.2)) vs → Pairs (mixKind P w) es vs →
    ReadsAll h (es.map (·.key)) ((kvs.map fun p => (kD p.1, PyData.int p.2)).map (·.1)) [] ∧ ReadsAll h (es.map (·.val)) ((kvs.map fun p => (kD p.1, PyData.int p.2)).map (·.2)) []
  | [], _, _, rk, rp => by
    cases rk
    cases rp
    exact ⟨.nil, .nil⟩
  | p :: kvs, _, _, rk, rp => by
    obtain ⟨pk, pi⟩ := p
    rw [List.map_cons] at rk
    cases rk with
    | @cons _ q _ qs hq tq =>
      obtain ⟨qk, qv⟩ := q
      obtain ⟨h1, h2⟩ := hq
      simp only at h1 h2
      subst h1
      cases rp with
      | @cons e _ es _ he hv tp =>
        obtain ⟨r1, r2⟩ := keys_reads (h := h) tq tp
        simp only at he hv
        obtain ⟨t, ht⟩ := h2
        subst ht
        refine ⟨?_, ?_⟩
        · have k1 : Reads h e.key (kD pk) [] := by
            rcases keyIs_shape (show keyIs pk e.key = true from he) with ⟨i, t, e1, e2⟩ | ⟨x, t, e1, e2⟩
            · rw [e1, e2]; exact .int i t
            · rw [e1, e2]; exact .str x t
          exact ReadsAll.cons k1 r1
        · have k2 : Reads h e.val (.int pi) [] := by rw [hv]; exact .int pi t
          exact ReadsAll.cons k2 r2
section
variable {X : Cx} {pins : List (Addr × Obj)} {σ : L2.St} {H : Hp} {s : Shared} {st r : Addr}
mutual
theorem Dq.reads (I : Inv X pins σ H s) : ∀ (d : PyData) (v : V) (u : Value), Dq X.K st r H v d → RelV v u → ∃ as, Reads s.heap u d as ∧ sysModules ∉ as
  | .none, _, _, h, q => by
    cases h; cases q; exact ⟨[], .none, by simp⟩
  | .bool b, _, _, h, q => by
    cases h; cases q; exact ⟨[], .bool b, by simp⟩
  | .int i, _, _, h, q => by
    cases h; obtain ⟨t, e⟩ := q; subst e; exact ⟨[], .int i t, by simp⟩
  | .str x, _, _, h, q => by
    cases h; obtain ⟨t, e⟩ := q; subst e; exact ⟨[], .str x t, by simp⟩
  | .list ds, _, _, h, q => by
    cases h with
    | lst e _ _ n hd =>
      cases q
      obtain ⟨its, rel, ⟨o, m, ho, hc, _, hm⟩, _⟩ := I.list (SqL.of e)
      obtain ⟨as, h1, h2⟩ := DqAll.reads I ds _ its hd rel
      exact ⟨_, .list ho hc hm h1, by simp only [List.mem_cons, not_or]; exact ⟨fun z => n z.symm, h2⟩⟩
  | .tuple ds, _, _, h, q => by
    cases h with
    | tup e hd =>
      cases q
      obtain ⟨its, rel, ⟨o, ho, hc, m, hm⟩, _⟩ := I.tuple e
      obtain ⟨as, h1, h2⟩ := DqAll.reads I ds _ its hd rel
      exact ⟨_, .tuple ho hc hm h1, h2⟩
  | .dict _, _, _, h, q => by
    cases h with
    | dct e =>
      cases q
      obtain ⟨_, nb, vs, rk, o, es, ep, ho, hx, hm, _, rp, _⟩ := dk_of I.hok e
      obtain ⟨h1, h2⟩ := keys_reads (h := s.heap) rk rp
      exact ⟨_, .dict ho hx.1 hm h1 h2, by simp only [List.nil_append, List.append_nil, List.mem_singleton, List.mem_cons, List.not_mem_nil, or_false]; exact fun z => absurd z.symm (by simpa using nb)⟩
theorem DqAll.reads (I : Inv X pins σ H s) : ∀ (ds : List PyData) (vs : List V) (us : List Value), DqAll X.K st r H vs ds → Vals vs us → ∃ as, ReadsAll s.heap us ds as ∧ sysModules ∉ as
  | [], _, _, h, q => by
    cases h; cases q; exact ⟨[], .nil, by simp⟩
  | d :: ds, _, _, h, q => by
    cases h with
    | cons h1 h2 =>
      cases q with
      | cons q1 q2 =>
        obtain ⟨as, e1, n1⟩ := Dq.reads I d _ _ h1 q1
        obtain ⟨bs, e2, n2⟩ := DqAll.reads I ds _ _ h2 q2
        exact ⟨_, .cons e1 e2, by simp only [List.mem_append, not_or]; exact ⟨n1, n2⟩⟩
end
end
/-- repr of such data -/
theorem call_reprQ {X : Cx} (hg : X.A.guards = some []) (hu : X.A.units + 70 < cLine) : CallR X (.builtin "repr")
    (fun xs H Q => ∃ a d st r, xs = [.ref a] ∧ Dq X.K st r H (.ref a) d ∧ d.showable = true ∧ d.depth ≤ 60 ∧ d.shown.length ≤ sizeLine ∧ Q (.str d.shown) H) := by
  intro pins s σ H xs us Q I rv h
  obtain ⟨a, d, st, r, rfl, hd, h1, h3, h4, q⟩ := h
  obtain ⟨u, rfl, rfl⟩ := vals1 rv
  obtain ⟨as, rd, nm⟩ := Dq.reads I d _ _ hd rfl
  exact repr_of_reads' rd h1 (fun _ => nm) hg (by omega) (fun _ _ e => e) (fun h' u tk hk => ⟨.str _, H, I.kept hk, ⟨_, rfl⟩, q⟩) h4

/-! how it lasts -/
section
variable {K : PySem.W.Frag} {st r c : Addr} {H H' : Hp}
structure Lasts (st r : Addr) (H H' : Hp) : Prop where
  tk : TupK H H'
  ls : ∀ a xs, H a = some (.lst xs) → a ≠ st → a ≠ r → H' a = some (.lst xs)
  dk : ∀ a kvs, H a = some (.dK kvs) → H' a = some (.dK kvs)
theorem Lasts.refl : Lasts st r H H := ⟨.refl _, fun _ _ e _ _ => e, fun _ _ e => e⟩
theorem Lasts.of (s : Same H H') : Lasts st r H H' := ⟨.of s, fun a xs e _ _ => s _ _ e, fun a kvs e => s _ _ e⟩
theorem Lasts.ext {t : Nat} (d : DS H st c r t) (x : Ext st r H H') : Lasts st r H H' := by
  refine ⟨x.tup d, fun a xs e n1 n2 => x _ _ e n1 n2, fun a kvs e => ?_⟩
  obtain ⟨cells, rests, hc, hr, _⟩ := d.ex
  exact x _ _ e (ne_of e d.hs (by intro z; cases z)) (ne_of e hr (by intro z; cases z))
theorem Lasts.trans {H2 : Hp} (a : Lasts st r H H') (b : Lasts st r H' H2) : Lasts st r H H2 :=
  ⟨a.tk.trans b.tk, fun p xs e n1 n2 => b.ls _ _ (a.ls _ _ e n1 n2) n1 n2, fun p kvs e => b.dk _ _ (a.dk _ _ e)⟩
theorem Lasts.new {p : Addr} {o : HO} (np : H p = none) : Lasts st r H (upd H p o) := .of (sameNew np)
mutual
theorem Dq.lasts (l : Lasts st r H H') : ∀ {d : PyData} {v : V}, Dq K st r H v d → Dq K st r H' v d
  | .none, _, h => by cases h; exact .non
  | .bool _, _, h => by cases h; exact .bl _
  | .int _, _, h => by cases h; exact .int _
  | .str _, _, h => by cases h; exact .str _
  | .list _, _, h => by
    cases h with
    | lst e n1 n2 n3 hd => exact .lst (l.ls _ _ e n1 n2) n1 n2 n3 (DqAll.lasts l hd)
  | .tuple _, _, h => by
    cases h with
    | tup e hd => exact .tup (l.tk.sq e) (DqAll.lasts l hd)
  | .dict _, _, h => by
    cases h with
    | dct e => exact .dct (l.dk _ _ e)
theorem DqAll.lasts (l : Lasts st r H H') : ∀ {ds : List PyData} {vs : List V}, DqAll K st r H vs ds → DqAll K st r H' vs ds
  | [], _, h => by cases h; exact .nil
  | _ :: _, _, h => by
    cases h with
    | cons h1 h2 => exact .cons (Dq.lasts l h1) (DqAll.lasts l h2)
end
mutual
theorem Dq.of_dp : ∀ {d : PyData} {v : V}, tupOnly d = true → Dp K H v d → Dq K st r H v d
  | .none, _, _, h => by cases h; exact .non
  | .bool _, _, _, h => by cases h; exact .bl _
  | .int _, _, _, h => by cases h; exact .int _
  | .str _, _, _, h => by cases h; exact .str _
  | .list _, _, t, _ => by simp [tupOnly] at t
  | .tuple _, _, t, h => by
    cases h with
    | tup e hd => exact .tup e (DqAll.of_dp (by simpa [tupOnly] using t) hd)
  | .dict _, _, t, _ => by simp [tupOnly] at t
theorem DqAll.of_dp : ∀ {ds : List PyData} {vs : List V}, tupOnlyAll ds = true → DpAll K H vs ds → DqAll K st r H vs ds
  | [], _, _, h => by cases h; exact .nil
  | d :: ds, _, t, h => by
    have t' : tupOnly d = true ∧ tupOnlyAll ds = true := by simpa [tupOnlyAll] using t
    cases h with
    | cons h1 h2 => exact .cons (Dq.of_dp t'.1 h1) (DqAll.of_dp t'.2 h2)
theorem Dq.to_dp : ∀ {d : PyData} {v : V}, tupOnly d = true → Dq K st r H v d → Dp K H v d
  | .none, _, _, h => by cases h; exact .non
  | .bool _, _, _, h => by cases h; exact .bl _
  | .int _, _, _, h => by cases h; exact .int _
  | .str _, _, _, h => by cases h; exact .str _
  | .list _, _, t, _ => by simp [tupOnly] at t
  | .tuple _, _, t, h => by
    cases h with
    | tup e hd => exact .tup e (DqAll.to_dp (by simpa [tupOnly] using t) hd)
  | .dict _, _, t, _ => by simp [tupOnly] at t
theorem DqAll.to_dp : ∀ {ds : List PyData} {vs : List V}, tupOnlyAll ds = true → DqAll K st r H vs ds → DpAll K H vs ds
  | [], _, _, h => by cases h; exact .nil
  | d :: ds, _, t, h => by
    have t' : tupOnly d = true ∧ tupOnlyAll ds = true := by simpa [tupOnlyAll] using t
    cases h with
    | cons h1 h2 => exact .cons (Dq.to_dp t'.1 h1) (DqAll.to_dp t'.2 h2)
end
theorem DqAll.len : ∀ {vs : List V} {ds : List PyData}, DqAll K st r H vs ds → vs.length = ds.length
  | _, _, .nil => rfl
  | _, _, .cons _ t => by simp [DqAll.len t]
theorem DqAll.at : ∀ {vs : List V} {ds : List PyData} {i : Nat} {v : V}, DqAll K st r H vs ds → vs[i]? = some v → ∃ d, ds[i]? = some d ∧ Dq K st r H v d
  | _, _, _, _, .nil, e => by simp at e
  | _, _, 0, _, .cons h _, e => by simp at e; subst e; exact ⟨_, rfl, h⟩
  | _, _, i + 1, v, .cons _ t, e => by
    obtain ⟨d, h1, h2⟩ := DqAll.at (i := i) t (by simpa using e)
    exact ⟨d, by simpa using h1, h2⟩
theorem DqAll.app : ∀ {vs ws : List V} {ds es : List PyData}, DqAll K st r H vs ds → DqAll K st r H ws es → DqAll K st r H (vs ++ ws) (ds ++ es)
  | _, _, _, _, .nil, h => h
  | _, _, _, _, .cons h t, h' => .cons h (DqAll.app t h')
theorem DqAll.snoc {vs : List V} {ds : List PyData} {v : V} {d : PyData} (h : DqAll K st r H vs ds) (h' : Dq K st r H v d) : DqAll K st r H (vs ++ [v]) (ds ++ [d]) := h.app (.cons h' .nil)
theorem DqAll.rev : ∀ {vs : List V} {ds : List PyData}, DqAll K st r H vs ds → DqAll K st r H vs.reverse ds.reverse
  | _, _, .nil => .nil
  | _, _, .cons h t => by rw [List.reverse_cons, List.reverse_cons]; exact (DqAll.rev t).snoc h
theorem DqAll.take : ∀ {vs : List V} {ds : List PyData} (n : Nat), DqAll K st r H vs ds → DqAll K st r H (vs.take n) (ds.take n)
  | _, _, 0, _ => .nil
  | _, _, _ + 1, .nil => .nil
  | _, _, n + 1, .cons h t => .cons h (DqAll.take n t)
theorem DqAll.drop : ∀ {vs : List V} {ds : List PyData} (n : Nat), DqAll K st r H vs ds → DqAll K st r H (vs.drop n) (ds.drop n)
  | _, _, 0, h => h
  | _, _, _ + 1, .nil => .nil
  | _, _, n + 1, .cons _ t => DqAll.drop n t
/-- its type -/
def tyN : PyData → String
  | .none => "NoneType"
  | .bool _ => "bool"
  | .int _ => "int"
  | .str _ => "str"
  | .list _ => "list"
  | .tuple _ => "tuple"
  | .dict _ => "dict"
theorem Dq.ty {d : PyData} {v : V} (h : Dq K st r H v d) : TyX K H v (.type (tyN d)) := by
  cases h with
  | non => exact .base .non
  | bl b => exact .base (.bl b)
  | int i => exact .base (.int i)
  | str x => exact .base (.str x)
  | lst e => exact .base (.lst e)
  | tup e _ =>
    rcases e with (e | ⟨o, e⟩) | ⟨o, its, n, e, hc, _⟩
    · exact .base (.tup e)
    · exact .fTuple e
    · exact .kTuple e hc
  | dct e => exact .base (.dK e)
def isTup : PyData → Bool
  | .tuple _ => true
  | _ => false
def isInt : PyData → Bool
  | .int _ => true
  | .bool _ => true
  | _ => false
def isBool : PyData → Bool
  | .bool _ => true
  | _ => false
theorem kit_tup (d : PyData) : PySem.W.kitOne K (.type (tyN d)) (.type "tuple") = some (isTup d) := by
  have key : ∀ a b : String, ∀ x : Bool, kitB a b = some x → PySem.W.kitOne K (.type a) (.type b) = some x := fun _ _ _ h => kit_ty h
  cases d
  · exact key "NoneType" "tuple" false (by decide +kernel)
  · exact key "bool" "tuple" false (by decide +kernel)
  · exact key "int" "tuple" false (by decide +kernel)
  · exact key "str" "tuple" false (by decide +kernel)
  · exact key "list" "tuple" false (by decide +kernel)
  · exact key "tuple" "tuple" true (by decide +kernel)
  · exact key "dict" "tuple" false (by decide +kernel)
theorem kit_int (d : PyData) : PySem.W.kitOne K (.type (tyN d)) (.type "int") = some (isInt d) := by
  have key : ∀ a b : String, ∀ x : Bool, kitB a b = some x → PySem.W.kitOne K (.type a) (.type b) = some x := fun _ _ _ h => kit_ty h
  cases d
  · exact key "NoneType" "int" false (by decide +kernel)
  · exact key "bool" "int" true (by decide +kernel)
  · exact key "int" "int" true (by decide +kernel)
  · exact key "str" "int" false (by decide +kernel)
  · exact key "list" "int" false (by decide +kernel)
  · exact key "tuple" "int" false (by decide +kernel)
  · exact key "dict" "int" false (by decide +kernel)
theorem kit_bool (d : PyData) : PySem.W.kitOne K (.type (tyN d)) (.type "bool") = some (isBool d) := by
  have key : ∀ a b : String, ∀ x : Bool, kitB a b = some x → PySem.W.kitOne K (.type a) (.type b) = some x := fun _ _ _ h => kit_ty h
  cases d
  · exact key "NoneType" "bool" false (by decide +kernel)
  · exact key "bool" "bool" true (by decide +kernel)
  · exact key "int" "bool" false (by decide +kernel)
  · exact key "str" "bool" false (by decide +kernel)
  · exact key "list" "bool" false (by decide +kernel)
  · exact key "tuple" "bool" false (by decide +kernel)
  · exact key "dict" "bool" false (by decide +kernel)
end
/-! a new list, whose address is none of the machine's own -/
def tLstS (t : TA) : TE := fun σ H Q => t σ H fun xs H1 => xs.length ≤ sizeLine ∧ ∀ p, H1 p = none → p ≠ sysModules → Q (.ref p) (upd H1 p (.lst xs))
section
variable {X : Cx} {es : List Expr} {pos : Pos} {t : TA}
theorem pe_lstS (h : PA X es t) : PE X (.List es pos) (tLstS t) := by
  constructor
  intro pins s σ H Q I hq
  refine wpAny_List_spliced (thn (h.run pos pins s σ H _ I hq) ?_)
  rintro us s1 ⟨xs, H1, I1, rel, z, q⟩
  refine ⟨by rw [← rel.length]; exact z, .ref s1.heap.objs.size, _, ?_, rfl, q _ (I1.hok.fresh (Nat.le_refl _)) (Nat.ne_of_gt I1.big)⟩
  exact I1.laid (t' := s1.toks) (fun b u e => Heap.get?_push_of_some _ e) (Nat.le_refl _) ⟨z, us, 0, rel, Heap.get?_push_size _ rfl⟩
def rListS (K : PySem.W.Frag) : RC := fun xs H Q => ∃ (p : Addr) (ys : List V), xs = [.ref p] ∧ SqT K H p ys ∧ ∀ l, H l = none → l ≠ sysModules → Q (.ref l) (upd H l (.lst ys))
theorem call_listS : CallR X (.type "list") (rListS X.K) := by
  intro pins s σ H xs us Q I rel h
  obtain ⟨p, ys, e, hq, q⟩ := h
  subst e
  obtain ⟨u, e, rx⟩ := vals1 rel
  subst e
  cases rx
  obtain ⟨its, r', ⟨o, ho, hc, n, hd⟩, hz⟩ := I.tuple hq
  have hlen := r'.length
  refine call_list_seq p (.inr rfl) ho hc hd (fun h' c' kp e => ?_) (by simp only [List.size_toArray]; omega)
  exact ⟨.ref s.heap.objs.size, _, I.laid (t' := s.toks) (o := .lst ys) kp (Nat.le_refl _) ⟨hz, its, c', r', e⟩, rfl, q _ (I.hok.fresh (Nat.le_refl _)) (Nat.ne_of_gt I.big)⟩
end
end Pv

namespace Pv
open PySem PySem.Spec PyProof.Rows L2
/-! enumerate of a tuple -/
theorem enumT_new (l : Addr) (items : Array Value) (n : Nat) (dct : Option Addr) (sl : Array (Option Value)) :
    Meets (Builtin.«enumerate.__new__» ⟨[.type "enumerate", .ref l], []⟩) (fun _ R s =>
      s.heap.get? l = some { cls := .type "tuple", dict := dct, data := .seq items n, slots := sl } ∧
      R (.ok (.ret (.ref (s.heap.push { cls := .type "tuple_iterator", data := .fields #[.ref l, .int 0 0] }).objs.size)))
        { s with heap := Heap.push (s.heap.push { cls := .type "tuple_iterator", data := .fields #[.ref l, .int 0 0] }) { cls := .type "enumerate", data := .fields #[.none, .bool false, .ref s.heap.objs.size, rawInt 0, .none, .none] } }) :=
  .of_wp fun prog w A R s h => by
    obtain ⟨hp, g, d, tk, os⟩ := s
    obtain ⟨hl, h⟩ := h
    have hsub := sub_enumerate
    have hL : Heap.IsTuple (Shared.heap ⟨hp, g, d, tk, os⟩) l items := ⟨_, hl, rfl, n, rfl⟩
    wp_walk using AutoSeq1.wpAny_loadPart' hl
    refine wpAny_stack_any fun st => wpAny_pure ?_
    split
    · rename_i c _ _ _ _ _
      cases (c == Value.type "enumerate") <;>
        (wp_walk using AutoSeq1.wpAny_loadPart' hl, wpAny_pyIter_tuple hL; exact ⟨_, rfl, h⟩)
    · wp_walk using AutoSeq1.wpAny_loadPart' hl, wpAny_pyIter_tuple hL
      exact ⟨_, rfl, h⟩
theorem call_enumT {prog : Program} {w : World} {A : Around} {E : Value → Shared → Prop} {s : Shared} {l : Addr} {items : Array Value} {Q : Value → Shared → Prop} (hL : s.heap.IsTuple l items)
    (h : ∀ h', IsEnum h' (s.heap.objs.size + 1) s.heap.objs.size 0 .none → h'.IsTupleIter s.heap.objs.size l 0 →
      (∀ b o, s.heap.get? b = some o → h'.get? b = some o) → Q (.ref (s.heap.objs.size + 1)) { s with heap := h' }) :
    wpAny (model prog w) A (call (.type "enumerate") [.ref l]) Q E s := by
  obtain ⟨⟨c, dct, dt, sl⟩, hl, hc, n, hd⟩ := hL
  simp only at hc hd
  subst hc hd
  refine callType_new F.called_enumerate (by decide) (F.typeCall_enumerate_1 _) (F.newCall_enumerate_1 _) (fun obj => F.args_object_init_2 obj _) F.entry_enumerate_new (enumT_new l items n dct sl) ⟨hl, ?_⟩
  have hz : (s.heap.push { cls := .type "tuple_iterator", data := .fields #[.ref l, .int 0 0] }).objs.size = s.heap.objs.size + 1 := Heap.size_push ..
  show _ ∧ _
  rw [hz]
  have ge : IsEnum (Heap.push (s.heap.push { cls := .type "tuple_iterator", data := .fields #[.ref l, .int 0 0] }) { cls := .type "enumerate", data := .fields #[.none, .bool false, .ref s.heap.objs.size, rawInt 0, .none, .none] }) (s.heap.objs.size + 1) s.heap.objs.size 0 .none := by
    rw [← hz]
    exact Heap.get?_push_size _ rfl
  exact ⟨⟨_, ge, rfl⟩, h _ ge ⟨_, Heap.get?_push_of_some _ (Heap.get?_push_size _ rfl), rfl, rfl⟩ fun b o x => Heap.get?_push_of_some _ (Heap.get?_push_of_some _ x)⟩
def IteT (K : PySem.W.Frag) (a : Addr) : It :=
  ⟨fun i H => ∃ (xs : List V) (x : V), SqT K H a xs ∧ xs[i]? = some x,
   fun i H v H' => ∃ T x, v = .ref T ∧ H T = none ∧ H' = upd H T (.tup [.int (i : Nat), x]) ∧ ∀ xs, SqT K H a xs → xs[i]? = some x,
   fun i H => ∃ xs : List V, SqT K H a xs ∧ xs.length = i⟩
theorem tupLt {h : Heap} {a : Addr} {its : Array Value} (p : IsTup h a its) : a < h.objs.size := by obtain ⟨_, e, _⟩ := p; exact Heap.lt_size e
theorem turn_enumT {P : Program} {w : World} {K : PySem.W.Frag} {elts : List Expr} {kk : Nat} {tpos : Pos} (a e it : Addr) :
    Turn P w K (.Tuple elts kk tpos) (IteT K a) [e, it] e (fun i h => (∃ old, IsEnum h e it ((i : Nat) : Int) old) ∧ h.IsTupleIter it a i ∧ e ≠ it) where
  mem := by simp
  obj := by
    rintro i h ⟨⟨old, he⟩, ⟨o, ho, hc, hd⟩, _⟩ b hb
    simp only [List.mem_cons, List.not_mem_nil, or_false] at hb
    rcases hb with rfl | rfl
    · exact ⟨_, he, fun v q => nomatch q⟩
    · exact ⟨o, ho, fun v q => by rw [hd] at q; cases q⟩
  keep := by
    rintro i h h' ⟨⟨old, he⟩, hi, hne⟩ k
    exact ⟨⟨old, k e (by simp) _ he⟩, hi.at fun o q => k it (by simp) o q, hne⟩
  item := by
    intro X hP hw hK hc i pins s σ H E I hf st hg
    subst hP hw hK
    obtain ⟨⟨old, he⟩, hit, hne⟩ := st
    obtain ⟨xs, x, hq, hx⟩ := hg
    obtain ⟨its, rv, p, hz⟩ := I.tuple hq
    obtain ⟨u, hu, ru⟩ := rv.get hx
    have hel : e < s.heap.objs.size := Heap.lt_size he
    have hil : it < s.heap.objs.size := by obtain ⟨_, q, _⟩ := hit; exact Heap.lt_size q
    have nea : e ≠ a := by
      rintro rfl
      obtain ⟨o, ho, hcl, _⟩ := p
      rw [he] at ho
      cases ho
      injection hcl with hcl
      exact absurd hcl (by decide)
    have nia : a ≠ it := by
      rintro rfl
      obtain ⟨o, ho, hcl, _⟩ := p
      obtain ⟨o2, ho2, hcl2, _⟩ := hit
      rw [ho] at ho2
      cases ho2
      rw [hcl] at hcl2
      injection hcl2 with hcl2
      exact absurd hcl2 (by decide)
    have hlt : i < its.toArray.size := by have := (List.getElem?_eq_some_iff.mp hu).1; simpa using this
    refine wpAny_pyNext_enum_itemD (Draws.tuple (A := X.A.in1) (I.ok.hd hc) it a nia its.toArray) he ⟨hit, p⟩ hlt hne (by simp [hne, nea]) ?_
    intro u' h' tk hu' ho st' hT hsz hk
    have hu2 : its.toArray[i]? = some u' := hu'
    have : u' = u := by
      have h3 : its.toArray[i]? = some u := by simpa using hu
      rw [h3] at hu2
      exact (Option.some.inj hu2).symm
    subst this
    refine ⟨_, rfl, wpAny_letOwnedTupleGo_enum (s := { s with heap := h', toks := tk + 1 }) ho fun h'' he' sb => ?_⟩
    have hT2 : h''.get? s.heap.objs.size = some { cls := .type "tuple", data := .seq #[.int i tk, u'] } := (sb.2 _ (Nat.ne_of_gt hel)).trans hT
    have new : ObjOk X.prog X.w (upd H s.heap.objs.size (.tup [.int (i : Nat), x])) h'' s.heap.objs.size (.tup [.int (i : Nat), x]) :=
      ⟨by show 2 ≤ sizeLine; decide, [.int i tk, u'], .cons ⟨_, rfl⟩ (.cons ru .nil), ⟨_, hT2, rfl, _, rfl⟩⟩
    have kk : ∀ b ob, b ∉ [e, it] → s.heap.get? b = some ob → h''.get? b = some ob := by
      intro b ob hb q
      have h1 : b ≠ e := fun z => hb (by simp [z])
      have h2 : b ≠ it := fun z => hb (by simp [z])
      exact (sb.2 b h1).trans (hk b ob h1 h2 q)
    have I1 : Inv X pins σ (upd H s.heap.objs.size (.tup [.int (i : Nat), x])) { s with heap := h'', toks := tk + 1 } :=
      I.turnedNew (ch := [e, it]) kk hf (Nat.le_refl _) new
    refine ⟨.ref s.heap.objs.size, _, I1, rfl, ⟨_, x, rfl, I.hok.fresh (Nat.le_refl _), rfl, fun ys hy => by rw [I.tuple_inj hy hq]; exact hx⟩, ⟨⟨u', ?_⟩, st'.1.at fun o q => (sb.2 it (Ne.symm hne)).trans q, hne⟩, fun b hb => ?_⟩
    · rw [show ((i + 1 : Nat) : Int) = (i : Int) + 1 by omega]; exact he'
    · have hb' : b < s.heap.objs.size := by
        simp only [List.mem_cons, List.not_mem_nil, or_false] at hb
        rcases hb with rfl | rfl <;> assumption
      rw [upd_ne (Nat.ne_of_lt hb')]
      exact (hf b hb).1
  done := by
    intro X hP hw hK hc i pins s σ H E I hf st hg
    subst hP hw hK
    obtain ⟨⟨old, he⟩, hit, hne⟩ := st
    obtain ⟨xs, hq, hx⟩ := hg
    obtain ⟨its, rv, p, hz⟩ := I.tuple hq
    obtain ⟨f0, f1, f2, f3, f4, f5⟩ := hf it (by simp)
    have hl := rv.length
    have nia : a ≠ it := by
      rintro rfl
      obtain ⟨o, ho, hcl, _⟩ := p
      obtain ⟨o2, ho2, hcl2, _⟩ := hit
      rw [ho] at ho2
      cases ho2
      rw [hcl] at hcl2
      injection hcl2 with hcl2
      exact absurd hcl2 (by decide)
    have hi : i = its.toArray.size := by rw [List.size_toArray]; omega
    refine wpAny_pyNext_enum_endD (Draws.tuple (A := X.A.in1) (I.ok.hd hc) it a nia its.toArray) he (by rw [← hi]; exact ⟨hit, p⟩) fun h' eb => ⟨rfl, I.turned (t' := s.toks) (fun b o hb q => eb b o hb q) f0 f1 f3 f4 f5⟩
  self := by
    rintro A i s Q E ⟨⟨_, he⟩, _⟩ h
    exact wpAny_pyIter_enum he h
def iEnumT (K : PySem.W.Frag) (ta : TA) : TI := fun σ H R => ta σ H fun vs H1 => ∃ a xs, vs = [.ref a] ∧ SqT K H1 a xs ∧ R (IteT K a) H1
theorem pi_enumT {X : Cx} {e : Expr} {ta : TA} {p pos tpos : Pos} {elts : List Expr} {kk : Nat} (hg : Gl X "enumerate") (hm : X.mg "enumerate" = none) (ha : PA X [e] ta)
    (hs : starEach [e] X.env = [(false, eval e X.env)] := by rfl) : PI X (.Tuple elts kk tpos) (.Call (.Name "enumerate" p) [e] [] pos) (iEnumT X.K ta) := by
  constructor
  intro pins s σ H R I h
  refine Call_ (ld_blt I hg hm boot_enumerate (PyProof.Rows.callWith_type1 (thn (ha.run pos pins s σ H _ I h) ?_) hs rfl))
  rintro us s1 ⟨vs, H1, I1, r1, a, xs, rfl, hq, q⟩
  obtain ⟨u, rfl, rfl⟩ := vals1 r1
  obtain ⟨its, rv, p', hz⟩ := I1.tuple hq
  refine call_enumT (show s1.heap.IsTuple a its.toArray from p') fun h' he hit hk => wpAny_pyIter_enum he ?_
  have I2 : Inv X pins σ H1 { s1 with heap := h' } := I1.kept (t' := s1.toks) hk
  refine ⟨s1.heap.objs.size + 1, [s1.heap.objs.size + 1, s1.heap.objs.size], _, _, H1, rfl, I2, turn_enumT a (s1.heap.objs.size + 1) s1.heap.objs.size, ⟨⟨.none, he⟩, hit, Nat.succ_ne_self _⟩, ?_, q⟩
  intro b hb
  have hle : s1.heap.objs.size ≤ b := by
    simp only [List.mem_cons, List.not_mem_nil, or_false] at hb
    rcases hb with rfl | rfl <;> omega
  exact I1.fpOk hle (I1.hok.fresh hle)
theorem walk_enumT {K : PySem.W.Frag} {a : Addr} {xs : List V} : Walk (IteT K a) xs.length (fun H => SqT K H a xs) (YPair (fun i => some (.int (i : Nat))) (fun i => xs[i]?)) := by
  constructor
  · intro i H hi q
    exact ⟨xs, xs[i], q, by simp [hi]⟩
  · intro H q
    exact ⟨xs, q, rfl⟩
  · rintro i H v H' _ q ⟨T, x, h1, h2, h3, h4⟩
    exact ⟨T, _, x, h1, h2, h3, rfl, h4 xs q⟩
/-! zip of a list and a tuple -/
abbrev zm1 (h : Heap) (l1 : Addr) : Heap := h.push { cls := .type "list_iterator", data := .fields #[.ref l1, .int 0 0] }
abbrev zm2 (h : Heap) (l1 l2 : Addr) : Heap := (zm1 h l1).push { cls := .type "tuple_iterator", data := .fields #[.ref l2, .int 0 0] }
abbrev zm3 (h : Heap) (l1 l2 : Addr) : Heap := (zm2 h l1 l2).push { cls := .type "tuple", data := .seq #[.ref h.objs.size, .ref (zm1 h l1).objs.size] }
abbrev zm4 (h : Heap) (l1 l2 : Addr) : Heap := (zm3 h l1 l2).push { cls := .type "tuple", data := .seq #[.none, .none] }
abbrev zm5 (h : Heap) (l1 l2 : Addr) : Heap := (zm4 h l1 l2).push { cls := .type "zip", data := .fields #[.none, .bool false, .bool false, .ref (zm2 h l1 l2).objs.size, .ref (zm3 h l1 l2).objs.size] }
theorem zipM_new (l1 l2 : Addr) (xs ys : Array Value) :
    Meets (Builtin.«zip.__new__» ⟨[.type "zip", .ref l1, .ref l2], []⟩) (fun _ R s => s.heap.IsList l1 xs ∧ s.heap.IsTuple l2 ys ∧
      R (.ok (.ret (.ref (zm4 s.heap l1 l2).objs.size))) { s with heap := zm5 s.heap l1 l2 }) :=
  .of_wp fun prog w A R s h => by
    obtain ⟨hp, g, d, tk, os⟩ := s
    obtain ⟨hl1, hl2, h⟩ := h
    have hsub := sub_zip
    have hL1 : Heap.IsList (Shared.heap ⟨hp, g, d, tk, os⟩) l1 xs := hl1
    have hL2 : Heap.IsTuple (Shared.heap ⟨zm1 hp l1, g, d, tk, os⟩) l2 ys := Heap.IsTuple.push hl2 _
    wp_walk using wpAny_pyIter_list hL1, wpAny_pyIter_tuple hL2
    exact ⟨_, rfl, h⟩
theorem call_zipM {prog : Program} {w : World} {A : Around} {E : Value → Shared → Prop} {s : Shared} {l1 l2 : Addr} {xs ys : Array Value} {Q : Value → Shared → Prop} (hl1 : s.heap.IsList l1 xs) (hl2 : s.heap.IsTuple l2 ys)
    (h : ∀ h', IsZip h' (s.heap.objs.size + 4) (s.heap.objs.size + 2) (s.heap.objs.size + 3) .none → IsPair h' (s.heap.objs.size + 2) (.ref s.heap.objs.size) (.ref (s.heap.objs.size + 1)) →
      IsPair h' (s.heap.objs.size + 3) .none .none → h'.IsListIter s.heap.objs.size l1 0 → h'.IsTupleIter (s.heap.objs.size + 1) l2 0 →
      (∀ c o, s.heap.get? c = some o → h'.get? c = some o) → Q (.ref (s.heap.objs.size + 4)) { s with heap := h' }) :
    wpAny (model prog w) A (call (.type "zip") [.ref l1, .ref l2]) Q E s := by
  refine callType_new F.called_zip (by decide) (F.typeCall_zip_2 _ _) (F.newCall_zip_2 _ _) (fun obj => F.args_object_init_3 obj _ _) F.entry_zip_new (zipM_new l1 l2 xs ys) ⟨hl1, hl2, ?_⟩
  have z1 : (zm1 s.heap l1).objs.size = s.heap.objs.size + 1 := Heap.size_push ..
  have z2 : (zm2 s.heap l1 l2).objs.size = s.heap.objs.size + 2 := by rw [Heap.size_push, z1]
  have z3 : (zm3 s.heap l1 l2).objs.size = s.heap.objs.size + 3 := by rw [Heap.size_push, z2]
  have z4 : (zm4 s.heap l1 l2).objs.size = s.heap.objs.size + 4 := by rw [Heap.size_push, z3]
  have g5 : (zm5 s.heap l1 l2).get? (zm4 s.heap l1 l2).objs.size = some _ := Heap.get?_push_size _ rfl
  have g4 : (zm5 s.heap l1 l2).get? (zm3 s.heap l1 l2).objs.size = some _ := Heap.get?_push_of_some _ (Heap.get?_push_size _ rfl)
  have g3 : (zm5 s.heap l1 l2).get? (zm2 s.heap l1 l2).objs.size = some _ := Heap.get?_push_of_some _ (Heap.get?_push_of_some _ (Heap.get?_push_size _ rfl))
  have g2 : (zm5 s.heap l1 l2).get? (zm1 s.heap l1).objs.size = some _ := Heap.get?_push_of_some _ (Heap.get?_push_of_some _ (Heap.get?_push_of_some _ (Heap.get?_push_size _ rfl)))
  have g1 : (zm5 s.heap l1 l2).get? s.heap.objs.size = some _ := Heap.get?_push_of_some _ (Heap.get?_push_of_some _ (Heap.get?_push_of_some _ (Heap.get?_push_of_some _ (Heap.get?_push_size _ rfl))))
  show _ ∧ _
  rw [z2, z3, z4] at g5
  rw [z1, z2] at g3
  rw [z3] at g4
  rw [z1] at g2
  rw [z4]
  refine ⟨⟨_, g5, rfl⟩, h _ g5 g3 g4 ⟨_, g1, rfl, rfl⟩ ⟨_, g2, rfl, rfl⟩ ?_⟩
  intro c o x
  exact Heap.get?_push_of_some _ (Heap.get?_push_of_some _ (Heap.get?_push_of_some _ (Heap.get?_push_of_some _ (Heap.get?_push_of_some _ x))))
def ItzM (K : PySem.W.Frag) (a b : Addr) : It :=
  ⟨fun i H => ∃ (xs ys : List V) (x y : V), SqL K H a xs ∧ SqT K H b ys ∧ xs[i]? = some x ∧ ys[i]? = some y,
   fun i H v H' => ∃ T x y, v = .ref T ∧ H T = none ∧ H' = upd H T (.tup [x, y]) ∧ (∀ xs, SqL K H a xs → xs[i]? = some x) ∧ ∀ ys, SqT K H b ys → ys[i]? = some y,
   fun i H => ∃ xs ys : List V, SqL K H a xs ∧ SqT K H b ys ∧ min xs.length ys.length = i⟩
theorem sepM {z TI TO i1 i2 a b : Addr} (D : ZipApart z TI TO i1 i2 a b) : ZipSep2 z TI TO i1 i2 [i1, a] [i2, b] := by
  refine ⟨D.TIz, D.TOz, D.TITO, D.TIi1, by simp, ?_, ?_, D.TIi2, by simp, ?_, ?_, ?_, ?_⟩ <;>
    simp only [List.mem_cons, List.not_mem_nil, or_false, not_or]
  · exact ⟨D.i1z.symm, D.l1z.symm⟩
  · exact ⟨D.TOi1, D.l1TO.symm⟩
  · exact ⟨D.i2z.symm, D.l2z.symm⟩
  · exact ⟨D.TOi2, D.l2TO.symm⟩
  · exact ⟨D.i12, D.l2i1.symm⟩
  · exact ⟨D.i12.symm, D.l1i2.symm⟩
theorem turn_zipM {P : Program} {w : World} {K : PySem.W.Frag} {elts : List Expr} {kk : Nat} {tpos : Pos} {a b z TI TO i1 i2 : Addr} (D : ZipApart z TI TO i1 i2 a b) :
    Turn P w K (.Tuple elts kk tpos) (ItzM K a b) [z, TI, TO, i1, i2] z
      (fun i h => IsZip h z TI TO .none ∧ IsPair h TI (.ref i1) (.ref i2) ∧ (∃ x y, IsPair h TO x y) ∧ h.IsListIter i1 a i ∧ h.IsTupleIter i2 b i) where
  mem := by simp
  obj := by
    rintro i h ⟨hz, hTI, ⟨x, y, hTO⟩, ⟨o1, e1, _, d1⟩, ⟨o2, e2, _, d2⟩⟩ c hc
    simp only [List.mem_cons, List.not_mem_nil, or_false] at hc
    rcases hc with rfl | rfl | rfl | rfl | rfl
    · exact ⟨_, hz, fun v q => nomatch q⟩
    · exact ⟨_, hTI, fun v q => nomatch q⟩
    · exact ⟨_, hTO, fun v q => nomatch q⟩
    · exact ⟨o1, e1, fun v q => by rw [d1] at q; cases q⟩
    · exact ⟨o2, e2, fun v q => by rw [d2] at q; cases q⟩
  keep := by
    rintro i h h' ⟨hz, hTI, ⟨x, y, hTO⟩, h1, h2⟩ k
    exact ⟨k z (by simp) _ hz, k TI (by simp) _ hTI, ⟨x, y, k TO (by simp) _ hTO⟩, h1.at fun o q => k i1 (by simp) o q, h2.at fun o q => k i2 (by simp) o q⟩
  item := by
    intro X hP hw hK hc i pins s σ H E I hf st hg
    subst hP hw hK
    obtain ⟨hz, hTI, ⟨x0, y0, hTO⟩, h1, h2⟩ := st
    obtain ⟨xs, ys, x, y, hqx, hqy, hx, hy⟩ := hg
    obtain ⟨its, rv, p, _⟩ := I.list hqx
    obtain ⟨its2, rv2, p2, _⟩ := I.tuple hqy
    obtain ⟨u, hu, ru⟩ := rv.get hx
    obtain ⟨u2, hu2, ru2⟩ := rv2.get hy
    have hzl : z < s.heap.objs.size := Heap.lt_size hz
    have hl1 : i < its.toArray.size := by have := (List.getElem?_eq_some_iff.mp hu).1; simpa using this
    have hl2 : i < its2.toArray.size := by have := (List.getElem?_eq_some_iff.mp hu2).1; simpa using this
    refine wpAny_pyNext_zipD2_item (sepM D) (Draws.list (A := X.A.in1) (I.ok.hd hc) i1 a D.l1i1 its.toArray) (Draws.tuple (A := X.A.in1) (I.ok.hd hc) i2 b D.l2i2 its2.toArray) hz hTI hTO ⟨h1, p.isList⟩ ⟨h2, p2⟩ hl1 hl2 ?_
    intro v1 v2 h' tk hv1 hv2 z' TO' st1 st2 hT hsz hk
    have e1 : v1 = u := by
      have h3 : its.toArray[i]? = some u := by simpa using hu
      rw [show its.toArray[i]? = some v1 from hv1] at h3
      exact Option.some.inj h3
    have e2 : v2 = u2 := by
      have h3 : its2.toArray[i]? = some u2 := by simpa using hu2
      rw [show its2.toArray[i]? = some v2 from hv2] at h3
      exact Option.some.inj h3
    subst e1 e2
    refine ⟨_, rfl, wpAny_letOwnedTupleGo_zip (s := { s with heap := h', toks := tk }) z' fun h'' z'' sb => ?_⟩
    have hT2 : h''.get? s.heap.objs.size = some { cls := .type "tuple", data := .seq #[v1, v2] } := (sb.2 _ (Nat.ne_of_gt hzl)).trans hT
    have new : ObjOk X.prog X.w (upd H s.heap.objs.size (.tup [x, y])) h'' s.heap.objs.size (.tup [x, y]) :=
      ⟨by show 2 ≤ sizeLine; decide, [v1, v2], .cons ru (.cons ru2 .nil), ⟨_, hT2, rfl, _, rfl⟩⟩
    have kk : ∀ c o, c ∉ [z, TI, TO, i1, i2] → s.heap.get? c = some o → h''.get? c = some o := by
      intro c o hb q
      simp only [List.mem_cons, List.not_mem_nil, or_false, not_or] at hb
      exact (sb.2 c hb.1).trans (hk c o hb.1 hb.2.2.1 hb.2.2.2.1 hb.2.2.2.2 q)
    have I1 : Inv X pins σ (upd H s.heap.objs.size (.tup [x, y])) { s with heap := h'', toks := tk } :=
      I.turnedNew (t' := tk) (ch := [z, TI, TO, i1, i2]) kk hf (Nat.le_refl _) new
    refine ⟨.ref s.heap.objs.size, _, I1, rfl, ⟨_, x, y, rfl, I.hok.fresh (Nat.le_refl _), rfl, fun l hl => by rw [I.list_inj hl hqx]; exact hx, fun l hl => by rw [I.tuple_inj hl hqy]; exact hy⟩, ⟨z'', ?_, ⟨v1, v2, ?_⟩, ?_, ?_⟩, ?_⟩
    · exact (sb.2 _ D.TIz).trans (hk _ _ D.TIz D.TITO D.TIi1 D.TIi2 hTI)
    · exact (sb.2 _ D.TOz).trans TO'
    · exact st1.1.at fun o q => (sb.2 _ D.i1z).trans q
    · exact st2.1.at fun o q => (sb.2 _ D.i2z).trans q
    · intro c hcm
      have hlt : c < s.heap.objs.size := by
        simp only [List.mem_cons, List.not_mem_nil, or_false] at hcm
        rcases hcm with rfl | rfl | rfl | rfl | rfl
        · exact hzl
        · exact Heap.lt_size hTI
        · exact Heap.lt_size hTO
        · obtain ⟨_, e1, _⟩ := h1; exact Heap.lt_size e1
        · obtain ⟨_, e2, _⟩ := h2; exact Heap.lt_size e2
      rw [upd_ne (Nat.ne_of_lt hlt)]
      exact (hf c hcm).1
  done := by
    intro X hP hw hK hc i pins s σ H E I hf st hg
    subst hP hw hK
    obtain ⟨hz, hTI, ⟨x0, y0, hTO⟩, h1, h2⟩ := st
    obtain ⟨xs, ys, hqx, hqy, hend⟩ := hg
    obtain ⟨its, rv, p, _⟩ := I.list hqx
    obtain ⟨its2, rv2, p2, _⟩ := I.tuple hqy
    have l1 := rv.length
    have l2 := rv2.length
    refine wpAny_pyNext_zipD2_end (i := i) (sepM D) (Draws.list (A := X.A.in1) (I.ok.hd hc) i1 a D.l1i1 its.toArray) (Draws.tuple (A := X.A.in1) (I.ok.hd hc) i2 b D.l2i2 its2.toArray) hz hTI hTO ⟨h1, p.isList⟩ ⟨h2, p2⟩ (by simp; omega) (by simp; omega) (by simp; omega) ?_
    intro h' tk hk
    refine ⟨rfl, I.turnedL (t' := tk) (ch := [z, TI, TO, i1, i2]) ?_ hf⟩
    intro c o hb q
    simp only [List.mem_cons, List.not_mem_nil, or_false, not_or] at hb
    exact hk c o hb.1 hb.2.2.1 hb.2.2.2.1 hb.2.2.2.2 q
  self := fun A i s Q E st h => wpAny_pyIter_zip st.1 h
def iZipM (K : PySem.W.Frag) (ta : TA) : TI := fun σ H R => ta σ H fun vs H1 => ∃ a b xs ys, vs = [.ref a, .ref b] ∧ SqL K H1 a xs ∧ SqT K H1 b ys ∧ R (ItzM K a b) H1
theorem pi_zipM {X : Cx} {e e2 : Expr} {ta : TA} {p pos tpos : Pos} {elts : List Expr} {kk : Nat} (hg : Gl X "zip") (hm : X.mg "zip" = none) (ha : PA X [e, e2] ta)
    (hs : starEach [e, e2] X.env = (false, eval e X.env) :: starEach [e2] X.env := by rfl) (hpl : (backTo pos (starEach [e2] X.env)).any (·.1) = false := by rfl) :
    PI X (.Tuple elts kk tpos) (.Call (.Name "zip" p) [e, e2] [] pos) (iZipM X.K ta) := by
  constructor
  intro pins s σ H R I h
  refine Call_ (ld_blt I hg hm PyProof.Rows.boot_zip (PyProof.Rows.callWith_type1 (thn (ha.run pos pins s σ H _ I h) ?_) hs hpl))
  rintro us s1 ⟨vs, H1, I1, r1, a, b, xs, ys, rfl, hqx, hqy, q⟩
  obtain ⟨u, v, rfl, rfl, rfl⟩ := vals2 r1
  obtain ⟨its, rv, p1, _⟩ := I1.list hqx
  obtain ⟨its2, rv2, p2, _⟩ := I1.tuple hqy
  refine call_zipM p1.isList (show s1.heap.IsTuple b its2.toArray from p2) fun h' hz hTI hTO h1 h2 hk => wpAny_pyIter_zip hz ?_
  have I2 : Inv X pins σ H1 { s1 with heap := h' } := I1.kept (t' := s1.toks) hk
  refine ⟨s1.heap.objs.size + 4, [s1.heap.objs.size + 4, s1.heap.objs.size + 2, s1.heap.objs.size + 3, s1.heap.objs.size, s1.heap.objs.size + 1], _, _, H1, rfl, I2,
    turn_zipM (PySem.W.ktu_apart s1.heap.objs.size a b p1.lt (tupLt p2)), ⟨hz, hTI, ⟨_, _, hTO⟩, h1, h2⟩, ?_, q⟩
  intro c hcm
  have hle : s1.heap.objs.size ≤ c := by
    simp only [List.mem_cons, List.not_mem_nil, or_false] at hcm
    rcases hcm with rfl | rfl | rfl | rfl | rfl <;> omega
  exact I1.fpOk hle (I1.hok.fresh hle)
theorem walk_zipM {K : PySem.W.Frag} {a b : Addr} {xs ys : List V} {n : Nat} (hn : n = min xs.length ys.length) :
    Walk (ItzM K a b) n (fun H => SqL K H a xs ∧ SqT K H b ys) (YPair (fun i => xs[i]?) (fun i => ys[i]?)) := by
  subst hn
  constructor
  · rintro i H hi ⟨q1, q2⟩
    have h1 : i < xs.length := by omega
    have h2 : i < ys.length := by omega
    exact ⟨xs, ys, xs[i], ys[i], q1, q2, by simp [h1], by simp [h2]⟩
  · rintro H ⟨q1, q2⟩
    exact ⟨xs, ys, q1, q2, rfl⟩
  · rintro i H v H' _ ⟨q1, q2⟩ ⟨T, x, z, h1, h2, h3, h4, h5⟩
    exact ⟨T, x, z, h1, h2, h3, h4 xs q1, h5 ys q2⟩
end Pv

/-! t[::-1] of a tuple -/
namespace HT
open PySem PyProof.Rows
section
variable {prog : Program} {w : World} {A : Around} {E : Value → Shared → Prop} {s : Shared}
theorem pv_pickBack (xs : Array Value) : ((List.range xs.size).filterMap fun (k : Nat) => xs[(((xs.size : Int) - 1) + (k : Int) * (-1)).toNat]?) = xs.toList.reverse := by
  apply List.ext_getElem?
  intro i
  have e : ∀ n, n ≤ xs.size → ((List.range n).filterMap fun (k : Nat) => xs[(((xs.size : Int) - 1) + (k : Int) * (-1)).toNat]?) = xs.toList.reverse.take n := by
    intro n
    induction n with
    | zero => intro _; rfl
    | succ n ih =>
      intro hn
      rw [List.range_succ, List.filterMap_append, ih (by omega), List.take_add_one]
      congr 1
      have h1 : (((xs.size : Int) - 1) + (n : Int) * (-1)).toNat = xs.size - 1 - n := by omega
      rw [List.filterMap_cons, List.filterMap_nil, h1, List.getElem?_reverse (by rw [Array.length_toList]; omega), Array.length_toList, Array.getElem?_toList]
      cases xs[xs.size - 1 - n]? <;> rfl
  rw [e xs.size (Nat.le_refl _), List.take_of_length_le (by simp)]
theorem pv_appliedBack {sl : Addr} {n : Nat} {t : Tok} {Q : Int × Int × Nat → Shared → Prop} (hs : s.heap.IsSliceOf sl .none .none (.int (-1) t)) (h : Q ((n : Int) - 1, -1, n) s) :
    wpAny (model prog w) A (Builtin.Slice.sliceApplied (.ref sl) (pure (n : Int))) Q E s := by
  obtain ⟨os, hos, hcs, hds⟩ := id hs
  unfold Builtin.Slice.sliceApplied Builtin.Slice.sliceFields
  refine wpAny_bind (wpAny_bind (wpAny_field hos hds (x := .none) rfl (wpAny_bind (wpAny_field hos hds (x := .none) rfl (wpAny_bind (wpAny_field hos hds (x := .int (-1) t) rfl (wpAny_pure ?_)))))))
  refine wpAny_bind (slicePart_ (IsPart.int (-1) t) ?_)
  show wpAny _ _ (if ((-1 : Int) == 0) = true then _ else _) _ _ s
  rw [if_neg (by decide)]
  refine wpAny_bind (slicePart_ IsPart.none (wpAny_bind (slicePart_ IsPart.none (wpAny_bind (wpAny_pure ?_)))))
  show wpAny _ _ (match Builtin.Slice.sliceAdjust none none (-1) (n : Int) with | (a, b) => pure (a, (-1 : Int), Builtin.Slice.slicePlaces a b (-1))) _ _ s
  have e1 : Builtin.Slice.sliceAdjust none none (-1) (n : Int) = ((n : Int) - 1, -1) := rfl
  rw [e1]
  show wpAny _ _ (pure ((n : Int) - 1, (-1 : Int), Builtin.Slice.slicePlaces ((n : Int) - 1) (-1) (-1))) _ _ s
  have e2 : Builtin.Slice.slicePlaces ((n : Int) - 1) (-1) (-1) = n := by
    unfold Builtin.Slice.slicePlaces
    have h1 : ¬ ((-1 : Int) > 0) := by omega
    simp only [h1, if_false]
    by_cases h2 : (n : Int) - 1 > -1
    · rw [if_pos h2]
      have h3 : -(-1 : Int) = 1 := rfl
      rw [h3, Int.ediv_one]
      omega
    · rw [if_neg h2]; omega
  rw [e2]
  exact wpAny_pure h
theorem pv_getItemBack {p sl : Addr} {items : Array Value} {t : Tok} {Q : Value → Shared → Prop} (ht : IsTup s.heap p items) (hs : s.heap.IsSliceOf sl .none .none (.int (-1) t))
    (h : Q (.ref s.heap.objs.size) { s with heap := s.heap.push { cls := .type "tuple", data := .seq items.toList.reverse.toArray } }) (hsz : items.size ≤ sizeLine) : wpAny (model prog w) A (getItem (.ref p) (.ref sl)) Q E s := by
  have hfit : sizeOk (.seq items.toList.reverse.toArray) := by
    show items.toList.reverse.toArray.size ≤ sizeLine
    rw [List.size_toArray, List.length_reverse]; simpa using hsz
  obtain ⟨os, hos, hcs, hds⟩ := id hs
  have hT : s.TypeIs (.ref sl) "slice" := ⟨os, hos, hcs⟩
  unfold getItem; try with_reducible refine wpAny_holding ?_
  first | refine wpAny_bind (wpAny_pure ?_) | skip
  refine wpAny_bind (wpAny_sequenceKey ht.typeIs (by decide) (wpAny_bind (wpAny_callSpecial?_slot (name := Str.ofString "__getitem__") ht.typeIs PyProof.Rows.slot_tuple_getitem
    (wpAny_call_entry PyProof.Rows.slot_tuple_getitem ht.typeIs entry_tuple_getitem ?_ (args_tuple_getitem _ _)))))
  show wpAny _ _ (Builtin.Tuple.tupleItemsOf (.ref p) >>= _) _ _ s
  refine wpAny_bind (tupleItemsOf_ ht (wpAny_bind (wpAny_typeOf hT ?_)))
  rw [if_pos (by decide)]
  refine wpAny_bind (pv_appliedBack hs ?_)
  show wpAny _ _ (if (((items.size : Int) - 1) == 0 && (-1 : Int) == 1 && items.size == items.size) = true then _ else _) _ _ s
  rw [if_neg (by simp)]
  show wpAny _ _ (Builtin.Tuple.tupleExact ((List.range items.size).filterMap fun (k : Nat) => items[(((items.size : Int) - 1) + (k : Int) * (-1)).toNat]?).toArray >>= _) _ _ s
  rw [pv_pickBack]
  first
    | exact wpAny_bind (m := Builtin.Tuple.tupleExact _) (wpAny_newObj_type (wpAny_pure ⟨_, rfl, wpAny_pure h⟩) hfit)
    | exact wpAny_bind (m := Builtin.Tuple.tupleExact _) (wpAny_newObj_type (wpAny_bind (wpAny_pure (wpAny_pure ⟨_, rfl, wpAny_pure h⟩))) hfit)
    | exact wpAny_bind (wpAny_bind (m := Builtin.Tuple.tupleExact _) (wpAny_newObj_type (wpAny_pure (wpAny_pure ⟨_, rfl, wpAny_pure h⟩)) hfit))
    | exact wpAny_bind (wpAny_bind (m := Builtin.Tuple.tupleExact _) (wpAny_newObj_type (wpAny_pure ⟨_, rfl, wpAny_pure h⟩) hfit))
end
end HT
namespace Pv
open PySem PySem.Spec PyProof.Rows L2
def tRevT (K : PySem.W.Frag) (te : TE) : TE := fun σ H Q => te σ H fun x H1 => ∃ (a : Addr) (xs : List V), x = .ref a ∧ SqT K H1 a xs ∧ ∀ p, H1 p = none → Q (.ref p) (upd H1 p (.tup xs.reverse))
section
variable {X : Cx}
theorem pe_revT {e : Expr} {te : TE} {k : Nat} {p1 p2 p3 pos : Pos} (he : PE X e te) : PE X (.Subscript e (.Slice none none (some (.UnaryOp .USub (.Constant (.int 1) k p1) p2)) p3) pos) (tRevT X.K te) := by
  constructor
  intro pins s σ H Q I h
  refine Subscript_ (thn (he.run pins s σ H _ I h) ?_)
  rintro v s1 ⟨x, H1, I1, r1, a, xs, rfl, hx, q⟩
  cases r1
  have hst : PO X (some (.UnaryOp .USub (.Constant (.int 1) k p1) p2)) (tPart (tUn (rU fun i => .int (-i)) (tC (.int 1)))) := po_some (pe_un un_neg pe_int)
  refine wpAny_Slice (thn (po_none.run pins s1 σ H1 (fun o H2 => o = none ∧ H2 = H1) I1 ⟨rfl, rfl⟩) ?_)
  rintro vl s2 ⟨l, H2, I2, pl, rfl, rfl⟩
  refine thn (po_none.run pins s2 σ H2 (fun o H3 => o = none ∧ H3 = H2) I2 ⟨rfl, rfl⟩) ?_
  rintro vu s3 ⟨u, H3, I3, pu, rfl, rfl⟩
  refine thn (hst.run pins s3 σ H3 (fun o H4 => o = some (-1) ∧ H4 = H3) I3 ⟨1, rfl, -1, rfl, rfl, rfl⟩) ?_
  rintro vs s4 ⟨o, H4, I4, ps, rfl, rfl⟩
  have I5 : Inv X pins σ H4 { s4 with heap := s4.heap.push { cls := .type "slice", data := .fields #[vl, vu, vs] } } := I4.kept (t' := s4.toks) fun b ob q => Heap.get?_push_of_some _ q
  obtain ⟨its, r, ht, hz⟩ := I5.tuple hx
  have hlen := r.length
  cases pl
  cases pu
  cases ps
  show wpAny (model X.prog X.w) X.A (subscriptTail e (.Slice none none (some (.UnaryOp .USub (.Constant (.int 1) k p1) p2)) p3) (.ref a) (.ref s4.heap.objs.size)) (EP X pins σ Q) X.xe _
  refine tail_any (ops := [.ref a, .ref s4.heap.objs.size]) ht.typeIs (PyProof.Rows.slot_tuple_getitem.lookup) ?_ (by with_unfolding_all rfl)
  refine HT.pv_getItemBack ht (Heap.IsSliceOf.new _ _ _ _) ?_ (by rw [List.size_toArray]; omega)
  refine ⟨.ref _, _, I5.laid (t' := s4.toks) (o := .tup xs.reverse) (fun b ob q => Heap.get?_push_of_some _ q) (Nat.le_refl _) ?_, rfl, q _ (I5.hok.fresh (Nat.le_refl _))⟩
  exact ⟨by rw [List.length_reverse]; exact hz, _, r.reverse, IsTup.new _ _⟩
/-! list == [], tuple != () whatever the items are -/
def rEqNil (K : PySem.W.Frag) : R2 := fun x y H Q => ∃ (a b : Addr) (xs : List V), x = .ref a ∧ y = .ref b ∧ SqL K H a xs ∧ SqL K H b [] ∧ Q (.bl xs.isEmpty) H
theorem op_eqNil (hu : X.A.units < cLine) : OpR X (compareOp .Eq) (rEqNil X.K) := by
  intro pins s σ H x y v u Q I rx ry h
  obtain ⟨a, b, xs, rfl, rfl, ha, hb, q⟩ := h
  cases rx
  cases ry
  obtain ⟨its, r1, p1, z1⟩ := I.list ha
  obtain ⟨its2, r2, p2, z2⟩ := I.list hb
  cases r2
  cases xs with
  | nil =>
    cases r1
    exact SeqAt.RcAt.lists (e := fun _ => true) p1.isList p2.isList rfl hu (fun j h1 _ => absurd h1 (Nat.not_lt_zero _)) X.prog X.w _ _ ⟨.bl true, H, I, rfl, q⟩
  | cons x xs =>
    have hl := r1.length
    exact SeqAt.RcAt.lists_lengths p1.isList p2.isList (by rw [List.size_toArray, ← hl]; rfl) hu X.prog X.w _ _ ⟨.bl false, H, I, rfl, q⟩
def rNeNilT (K : PySem.W.Frag) : R2 := fun x y H Q => ∃ (a b : Addr) (xs : List V), x = .ref a ∧ y = .ref b ∧ SqT K H a xs ∧ SqT K H b [] ∧ Q (.bl (!xs.isEmpty)) H
theorem op_neNilT (hu : X.A.units < cLine) : OpR X (compareOp .NotEq) (rNeNilT X.K) := by
  intro pins s σ H x y v u Q I rx ry h
  obtain ⟨a, b, xs, rfl, rfl, ha, hb, q⟩ := h
  cases rx
  cases ry
  obtain ⟨its, r1, p1, z1⟩ := I.tuple ha
  obtain ⟨its2, r2, p2, z2⟩ := I.tuple hb
  cases r2
  have hl := r1.length
  have key := SeqAt.RcNeAt.tuples (A := X.A) (e := fun _ => true) (show s.heap.IsTuple a its.toArray from p1) (show s.heap.IsTuple b ([] : List Value).toArray from p2) hu (fun j _ h2 => absurd h2 (Nat.not_lt_zero _)) X.prog X.w
  have e : (!((List.range (min its.toArray.size ([] : List Value).toArray.size)).all (fun _ => true) && its.toArray.size == ([] : List Value).toArray.size)) = !xs.isEmpty := by
    rw [List.size_toArray, ← hl]
    cases xs <;> simp
  rw [e] at key
  exact key _ _ ⟨.bl _, H, I, rfl, q⟩
end
end Pv

namespace Pv
open PySem PySem.Spec PyProof.Rows L2
theorem samePut {H H1 : Hp} {D : Addr} {o : HO} (s : Same H H1) (nD : H D = none) : Same H (upd H1 D o) := fun b z e => by rw [upd_ne (ne_of_none e nD)]; exact s b z e
theorem ty_sq {K : PySem.W.Frag} {H : Hp} {a : Addr} {xs : List V} (h : SqT K H a xs) : TyX K H (.ref a) (.type "tuple") := by
  rcases h with (h | ⟨o, h⟩) | ⟨o, its, n, h, hc, _⟩
  · exact .base (.tup h)
  · exact .fTuple h
  · exact .kTuple h hc
theorem small {n : Nat} (h : n ≤ 1000000) : n < sizeLine := Nat.lt_of_le_of_lt h (by decide)
def addAt (ls : List Int) (p x : Int) : List Int := ls.set p.toNat (ls.getD p.toNat 0 + x)
theorem addAt_len (ls : List Int) (p x : Int) : (addAt ls p x).length = ls.length := by simp [addAt]
theorem freeOf {H : Hp} {p b : Addr} {o : HO} (h : upd H p o b = none) : H b = none := by
  by_cases e : b = p
  · subst e; rw [upd_same] at h; cases h
  · rw [upd_ne e] at h; exact h
theorem ixN_nat {n j : Nat} (h : j < n) : ixN n (j : Int) = some j := by
  unfold ixN
  rw [if_pos (by omega), if_pos (by omega)]
  simp
theorem zip_take {α β : Type} : ∀ (n : Nat) (a : List α) (b : List β), (a.take n).zip (b.take n) = (a.zip b).take n
  | 0, _, _ => by simp
  | _ + 1, [], _ => by simp
  | _ + 1, _ :: _, [] => by simp
  | n + 1, x :: a, y :: b => by simp [zip_take n a b]
def zeros (n : Nat) : List Int := List.replicate n 0
theorem zeros_V (n : Nat) : (List.replicate n [V.int 0]).flatten = (zeros n).map V.int := by
  unfold zeros
  induction n with
  | zero => rfl
  | succ n ih => rw [List.replicate_succ, List.flatten_cons, ih]; rfl
theorem zip_snoc {α β : Type} {a : List α} {b : List β} {i : Nat} {x : α} {y : β} (hx : a[i]? = some x) (hy : b[i]? = some y) : (a.take (i + 1)).zip (b.take (i + 1)) = (a.take i).zip (b.take i) ++ [(x, y)] := by
  rw [zip_take, zip_take, List.take_add_one]
  have : (a.zip b)[i]? = some (x, y) := by
    rw [List.getElem?_zip_eq_some]; exact ⟨hx, hy⟩
  rw [this]; rfl
theorem take_snoc {α : Type} {l : List α} {i : Nat} {x : α} (h : l[i]? = some x) : l.take (i + 1) = l.take i ++ [x] := by rw [List.take_add_one, h]; rfl
theorem cut_to (xs : List V) (n : Nat) : cutV xs none (some (n : Int)) = xs.take n := by
  unfold cutV
  rw [HT.sIx_none, HT.sIx_nat, List.drop_zero, Nat.sub_zero]
  by_cases h : n ≤ xs.length
  · rw [Nat.min_eq_left h]
  · rw [Nat.min_eq_right (by omega), List.take_length, List.take_of_length_le (by omega)]
def absI (i : Int) : Int := if i < 0 then -i else i
theorem absI_nn (i : Int) : 0 ≤ absI i := by unfold absI; split <;> omega
def restI (c : Int) : Int := c * (if decide ((10 : Int) ^ (18 : Int).toNat ≤ c) = true then 1 else 0)
theorem restI_nn {c : Int} (h : 0 ≤ c) : 0 ≤ restI c := by unfold restI; split <;> omega
structure InsOk (cs : List Int) (gs : List Gp) : Prop where
  c1 : 1 ≤ cs.length
  c6 : cs.length ≤ 6
  cb : ∀ c ∈ cs, 1 ≤ c ∧ c ≤ 10 ^ 12
  g1 : 1 ≤ gs.length
  g10 : gs.length ≤ 10
  gp : ∀ g ∈ gs, g.1.length ≤ 6 ∧ (∀ p ∈ g.1, 0 ≤ p ∧ p < (cs.length : Int)) ∧ 1 ≤ g.2 ∧ g.2 ≤ 10 ^ 12
theorem ExtPut {st r p : Addr} {H H1 : Hp} {o : HO} (x : Ext st r H H1) (np : H p = none) : Ext st r H (upd H1 p o) := fun b z e n1 n2 => by rw [upd_ne (ne_of_none e np)]; exact x b z e n1 n2
theorem Ext.nil {st c r p : Addr} {t : Nat} {H H1 : Hp} (x : Ext st r H H1) (d : DS H1 st c r t) (np : H1 p = none) : H p = none := by
  have o := d.off np
  cases e : H p with
  | none => rfl
  | some z => rw [x _ _ e o.1 o.2.2] at np; cases np
def upTo (n : Nat) : List Int := (List.range n).map fun (i : Nat) => (i : Int)
theorem rgV_upTo (n : Nat) : rgV 0 (n : Int) = (upTo n).map V.int := by
  unfold rgV upTo
  rw [List.map_map]
  simp
theorem upTo_len (n : Nat) : (upTo n).length = n := by simp [upTo]
theorem upTo_mem {n : Nat} {x : Int} (h : x ∈ upTo n) : 0 ≤ x ∧ x < n := by
  unfold upTo at h
  obtain ⟨i, hi, rfl⟩ := List.mem_map.mp h
  have := List.mem_range.mp hi
  omega
theorem erase_map {α β : Type} (f : α → β) : ∀ (l : List α) (k : Nat), (l.map f).eraseIdx k = (l.eraseIdx k).map f
  | [], _ => rfl
  | _ :: _, 0 => rfl
  | x :: l, k + 1 => by simp [erase_map f l k]
theorem fine_grp {cs : List Int} {gs : List Gp} (ok : InsOk cs gs) {g : Gp} (hg : g ∈ gs) : Fine 2 500 (dGrp g) := by
  obtain ⟨h1, h2, h3, h4⟩ := ok.gp g hg
  refine (fine_tup (k := 1) (B := 200) (n := 2) (xs := [dI g.1, .int g.2]) ?_ (by simp)).mono (by omega) (by omega)
  intro x hx
  simp at hx
  rcases hx with rfl | rfl
  · exact (fine_dI (n := 6) (fun p hp => by have := h2 p hp; have := ok.c6; omega) h1).mono (by omega) (by omega)
  · exact (fine_int (by omega)).mono (by omega) (by omega)
theorem fine_inst {cs : List Int} {gs : List Gp} (ok : InsOk cs gs) : Fine 4 20000 (dInst cs gs) := by
  refine (fine_tup (k := 3) (B := 8000) (n := 2) (xs := [dI cs, .tuple (gs.map dGrp)]) ?_ (by simp)).mono (by omega) (by omega)
  intro x hx
  simp at hx
  rcases hx with rfl | rfl
  · exact (fine_dI (n := 6) (fun p hp => by have := ok.cb p hp; omega) ok.c6).mono (by omega) (by omega)
  · refine (fine_tup (k := 2) (B := 500) (n := 10) ?_ (by rw [List.length_map]; exact ok.g10)).mono (by omega) (by omega)
    intro d hd
    obtain ⟨g, hg, rfl⟩ := List.mem_map.mp hd
    exact fine_grp ok hg
theorem hu70 {k : Nat} {A : Around} (hr : Room k A) : A.units + 70 < cLine := by have := hr.un; omega
theorem ty_sqL {K : PySem.W.Frag} {H : Hp} {a : Addr} {xs : List V} (h : SqL K H a xs) : TyX K H (.ref a) (.type "list") := by
  rcases h with (h | ⟨o, h⟩) | ⟨o, its, n, h, hc, _⟩
  · exact .base (.lst h)
  · exact .base (.frz h)
  · exact .kList h hc
theorem FnOk.none {P : Program} {w : World} {K : PySem.W.Frag} {mg : Str → Option Value} {base : Heap} {k : Nat} {f : Addr} {fd : FuncData} {ps : List Str} : FnOk P w K mg base CX0 k f fd ps (fun _ _ _ _ => False) :=
  ⟨fun _ _ _ _ h => h.elim, fun _ _ _ _ _ _ _ _ _ _ _ _ _ h => h.elim⟩
end Pv

namespace Pv
open PySem PySem.Spec PyProof.Rows L2
/-! a comprehension whose elements only make new objects -/
def LcP {α : Type} (H1 : Hp) (D : Addr) (zs : List α) (F : α → Option V) (i : Nat) (H : Hp) : Prop := Same H1 H ∧ H D = some (.lst ((zs.take i).filterMap F))
section
variable {α : Type} {H1 H H' : Hp} {D : Addr} {zs : List α} {F : α → Option V} {i : Nat} {x : α} {y : V}
theorem LcP.start (nD : H1 D = none) : LcP H1 D zs F 0 (upd H1 D (.lst [])) := ⟨sameNew nD, by rw [upd_same]; rfl⟩
theorem LcP.yes (h : LcP H1 D zs F i H) (nD : H1 D = none) (s : Same H H') (hx : zs[i]? = some x) (hF : F x = some y) (hi : i ≤ 1000000) : ∃ acc, H' D = some (.lst acc) ∧ acc.length < sizeLine ∧ LcP H1 D zs F (i + 1) (upd H' D (.lst (acc ++ [y]))) := by
  refine ⟨_, s _ _ h.2, ?_, samePut (h.1.trans s) nD, ?_⟩
  · have h1 := List.length_filterMap_le F (zs.take i)
    have h2 := List.length_take_le i zs
    exact small (by omega)
  · rw [upd_same, take_snoc hx, List.filterMap_append]
    simp [hF]
theorem LcP.no (h : LcP H1 D zs F i H) (s : Same H H') (hx : zs[i]? = some x) (hF : F x = none) : LcP H1 D zs F (i + 1) H' := by
  refine ⟨h.1.trans s, ?_⟩
  rw [s _ _ h.2, take_snoc hx, List.filterMap_append]
  simp [hF]
theorem LcP.done (h : LcP H1 D zs F i H) (hi : zs.length ≤ i) : H D = some (.lst (zs.filterMap F)) := by have := h.2; rwa [List.take_of_length_le hi] at this
end
theorem fm_map {α : Type} (f : α → V) (zs : List α) : zs.filterMap (fun x => some (f x)) = zs.map f := by
  induction zs with
  | nil => rfl
  | cons z zs ih => simp
theorem fm_filter {α : Type} (p : α → Bool) (f : α → V) (zs : List α) : zs.filterMap (fun x => if p x = true then some (f x) else none) = (zs.filter p).map f := by
  induction zs with
  | nil => rfl
  | cons z zs ih => by_cases h : p z = true <;> simp [h, ih]
def Rl {β : Type} (R : V → β → Prop) (vs : List V) (rs : List β) : Prop := vs.length = rs.length ∧ ∀ (j : Nat) (v : V) (r : β), vs[j]? = some v → rs[j]? = some r → R v r
section
variable {β : Type} {R R' : V → β → Prop} {vs : List V} {rs : List β}
theorem Rl.nil : Rl R [] [] := ⟨rfl, fun j v r h => by simp at h⟩
theorem Rl.mono (h : Rl R vs rs) (f : ∀ v r, R v r → R' v r) : Rl R' vs rs := ⟨h.1, fun j v r h1 h2 => f _ _ (h.2 j v r h1 h2)⟩
theorem Rl.snoc {v : V} {r : β} (h : Rl R vs rs) (hv : R v r) : Rl R (vs ++ [v]) (rs ++ [r]) := by
  refine ⟨by simp [h.1], fun j v' r' h1 h2 => ?_⟩
  by_cases hj : j < vs.length
  · rw [List.getElem?_append_left hj] at h1
    rw [List.getElem?_append_left (by rw [← h.1]; exact hj)] at h2
    exact h.2 j v' r' h1 h2
  · rw [List.getElem?_append_right (by omega)] at h1
    rw [List.getElem?_append_right (by rw [← h.1]; omega)] at h2
    have e : j - vs.length = 0 := by have := (List.getElem?_eq_some_iff.mp h1).1; simp at this; omega
    rw [e] at h1
    rw [← h.1, e] at h2
    simp at h1 h2
    rw [← h1, ← h2]; exact hv
theorem Rl.at {j : Nat} {v : V} (h : Rl R vs rs) (hv : vs[j]? = some v) : ∃ r, rs[j]? = some r ∧ R v r := by
  have hj : j < rs.length := by rw [← h.1]; exact (List.getElem?_eq_some_iff.mp hv).1
  exact ⟨rs[j], List.getElem?_eq_getElem hj, h.2 j v _ hv (List.getElem?_eq_getElem hj)⟩
end
theorem sqS {K : PySem.W.Frag} {H H' : Hp} {a : Addr} {xs : List V} (s : Same H H') (h : SqT K H a xs) : SqT K H' a xs := (TupK.of s).sq h
theorem atS {xs : List Int} {j : Nat} (h : j < xs.length) : (xs.map V.int)[j]? = some (.int xs[j]) := by rw [List.getElem?_map, List.getElem?_eq_getElem h]; rfl
section
variable {X : Cx}
def rEqNilT (K : PySem.W.Frag) : R2 := fun x y H Q => ∃ (a b : Addr) (xs : List V), x = .ref a ∧ y = .ref b ∧ SqT K H a xs ∧ SqT K H b [] ∧ Q (.bl xs.isEmpty) H
theorem op_eqNilT (hu : X.A.units < cLine) : OpR X (compareOp .Eq) (rEqNilT X.K) := by
  intro pins s σ H x y v u Q I rx ry h
  obtain ⟨a, b, xs, rfl, rfl, ha, hb, q⟩ := h
  cases rx
  cases ry
  obtain ⟨its, r1, p1, z1⟩ := I.tuple ha
  obtain ⟨its2, r2, p2, z2⟩ := I.tuple hb
  cases r2
  have hl := r1.length
  have key := SeqAt.RcAt.tuples (A := X.A) (e := fun _ => true) (show s.heap.IsTuple a its.toArray from p1) (show s.heap.IsTuple b ([] : List Value).toArray from p2) hu (fun j _ h2 => absurd h2 (Nat.not_lt_zero _)) X.prog X.w
  have e : ((List.range (min its.toArray.size ([] : List Value).toArray.size)).all (fun _ => true) && its.toArray.size == ([] : List Value).toArray.size) = xs.isEmpty := by
    rw [List.size_toArray, ← hl]
    cases xs <;> simp
  rw [e] at key
  exact key _ _ ⟨.bl _, H, I, rfl, q⟩
end
end Pv

namespace Pv
open PySem PySem.Spec PyProof.Rows L2
/-! repr of any such value -/
theorem call_reprA {X : Cx} (hg : X.A.guards = some []) (hu : X.A.units + 70 < cLine) : CallR X (.builtin "repr")
    (fun xs H Q => ∃ v d st r, xs = [v] ∧ Dq X.K st r H v d ∧ d.showable = true ∧ d.depth ≤ 60 ∧ d.shown.length ≤ sizeLine ∧ Q (.str d.shown) H) := by
  intro pins s σ H xs us Q I rv h
  obtain ⟨v, d, st, r, rfl, hd, h1, h3, h4, q⟩ := h
  by_cases hv : ∃ a, v = .ref a
  · obtain ⟨a, rfl⟩ := hv
    exact call_reprQ hg hu pins s σ H _ us Q I rv ⟨a, d, st, r, rfl, hd, h1, h3, h4, q⟩
  · obtain ⟨u, rfl, ru⟩ := vals1 rv
    cases hd with
    | non => cases ru; exact PySem.P.repr_of_none ⟨.str _, H, I.tok _, ⟨_, rfl⟩, q⟩
    | bl b => cases ru; cases b <;> exact PySem.P.repr_of_bool ⟨.str _, H, I.tok _, ⟨_, rfl⟩, q⟩
    | int i =>
      obtain ⟨t, rfl⟩ := ru
      exact PySem.P.repr_of_int (by simpa [PyData.showable] using h1) ⟨.str _, H, I.tok _, ⟨_, rfl⟩, q⟩
    | str x =>
      obtain ⟨t, rfl⟩ := ru
      exact PySem.P.repr_of_str ⟨.str _, H, I.tok _, ⟨_, rfl⟩, q⟩ h4
    | lst _ => exact absurd ⟨_, rfl⟩ hv
    | tup _ => exact absurd ⟨_, rfl⟩ hv
    | dct _ => exact absurd ⟨_, rfl⟩ hv
/-! written values -/
def tLit (K : PySem.W.Frag) (d : PyData) : TE := fun _ H Q => ∃ st r, (H st ≠ none ∧ H r ≠ none) ∧ ∀ H' v, Same H H' → Dq K st r H' v d → Q v H'
def tLits (K : PySem.W.Frag) (ds : List PyData) : TA := fun _ H Q => ∃ st r, (H st ≠ none ∧ H r ≠ none) ∧ ∀ H' vs, Same H H' → DqAll K st r H' vs ds → Q vs H'
theorem occ {H H' : Hp} {st r : Addr} (h : H st ≠ none ∧ H r ≠ none) (s : Same H H') : H' st ≠ none ∧ H' r ≠ none := by
  obtain ⟨h1, h2⟩ := h
  constructor
  · cases e : H st with
    | none => exact absurd e h1
    | some o => rw [s _ _ e]; simp
  · cases e : H r with
    | none => exact absurd e h2
    | some o => rw [s _ _ e]; simp
theorem occ_ne {H : Hp} {st r p : Addr} (h : H st ≠ none ∧ H r ≠ none) (np : H p = none) : p ≠ st ∧ p ≠ r := ⟨fun e => h.1 (e ▸ np), fun e => h.2 (e ▸ np)⟩
theorem DqAll.rep {K : PySem.W.Frag} {st r : Addr} {H : Hp} {vs : List V} {ds : List PyData} (h : DqAll K st r H vs ds) : ∀ k : Nat, DqAll K st r H (List.replicate k vs).flatten (List.replicate k ds).flatten
  | 0 => .nil
  | k + 1 => by
    rw [List.replicate_succ, List.replicate_succ, List.flatten_cons, List.flatten_cons]
    exact h.app (DqAll.rep h k)
section
variable {X : Cx} {e : Expr} {es : List Expr} {pos p1 p2 : Pos} {d : PyData} {ds : List PyData}
theorem pe_mono {t t' : TE} (h : PE X e t) (m : ∀ σ H Q, t' σ H Q → t σ H Q) : PE X e t' := ⟨fun pins s σ H Q I q => h.run pins s σ H Q I (m _ _ _ q)⟩
theorem pa_mono {t t' : TA} (h : PA X es t) (m : ∀ σ H Q, t' σ H Q → t σ H Q) : PA X es t' := ⟨fun pos pins s σ H Q I q => h.run pos pins s σ H Q I (m _ _ _ q)⟩
theorem lit_c {v : V} (h : PE X e (tC v)) (hd : ∀ st r H, Dq X.K st r H v d) : PE X e (tLit X.K d) := pe_mono h fun σ H Q ⟨st, r, _, q⟩ => q H v (Same.refl H) (hd st r H)
theorem lit_int {n : Int} (h : PE X e (tC (.int n))) : PE X e (tLit X.K (.int n)) := lit_c h fun _ _ _ => .int n
theorem lit_bl {b : Bool} (h : PE X e (tC (.bl b))) : PE X e (tLit X.K (.bool b)) := lit_c h fun _ _ _ => .bl b
theorem lit_str {x : Str} (h : PE X e (tC (.str x))) : PE X e (tLit X.K (.str x)) := lit_c h fun _ _ _ => .str x
theorem lit_non (h : PE X e (tC .non)) : PE X e (tLit X.K .none) := lit_c h fun _ _ _ => .non
theorem lit_pow {a b : Int} (h : PE X e (tOp (rI CPow fun i j => .int (i ^ j.toNat)) (tC (.int a)) (tC (.int b)))) (hc : CPow a b) : PE X e (tLit X.K (.int (a ^ b.toNat))) :=
  pe_mono h fun σ H Q ⟨st, r, _, q⟩ => ⟨a, b, rfl, rfl, hc, q H _ (Same.refl H) (.int _)⟩
theorem lit_add {e1 e2 : Expr} {a b : Int} (h1 : PE X e1 (tLit X.K (.int a))) (h2 : PE X e2 (tLit X.K (.int b))) : PE X (.BinOp e1 .Add e2 pos) (tLit X.K (.int (a + b))) :=
  pe_mono (pe_op op_add h1 h2) fun σ H Q ⟨st, r, oc, q⟩ => ⟨st, r, oc, fun H1 v1 s1 d1 => ⟨st, r, occ oc s1, fun H2 v2 s2 d2 => by
    cases d1; cases d2
    exact ⟨a, b, rfl, rfl, q H2 _ (s1.trans s2) (.int _)⟩⟩⟩
theorem lits_nil : PA X [] (tLits X.K []) := pa_mono pa_nil fun σ H Q ⟨st, r, _, q⟩ => q H [] (Same.refl H) .nil
theorem lits_cons (h : PE X e (tLit X.K d)) (hs : PA X es (tLits X.K ds)) (hq : starEach (e :: es) X.env = (false, eval e X.env) :: starEach es X.env := by rfl) : PA X (e :: es) (tLits X.K (d :: ds)) :=
  pa_mono (pa_cons h hs hq) fun σ H Q ⟨st, r, oc, q⟩ => ⟨st, r, oc, fun H1 v s1 d1 => ⟨st, r, occ oc s1, fun H2 vs s2 d2 => q H2 _ (s1.trans s2) (.cons (d1.lasts (.of s2)) d2)⟩⟩
theorem small6 {n : Nat} (h : n ≤ 1000000) : n ≤ sizeLine := Nat.le_of_lt (Nat.lt_of_le_of_lt h (by decide))
theorem lit_tup {k : Nat} (h : PA X es (tLits X.K ds)) (hl : ds.length ≤ 1000000) : PE X (.Tuple es k pos) (tLit X.K (.tuple ds)) :=
  pe_mono (pe_tup h) fun σ H Q ⟨st, r, oc, q⟩ => ⟨st, r, oc, fun H1 vs s1 d1 => ⟨by rw [DqAll.len d1]; exact small6 hl, fun p np => q _ _ (s1.trans (sameNew np)) (.tup (SqT.of upd_same) (d1.lasts (.of (sameNew np))))⟩⟩
theorem lit_lst (h : PA X es (tLits X.K ds)) (hl : ds.length ≤ 1000000) : PE X (.List es pos) (tLit X.K (.list ds)) :=
  pe_mono (pe_lstS h) fun σ H Q ⟨st, r, oc, q⟩ => ⟨st, r, oc, fun H1 vs s1 d1 => ⟨by rw [DqAll.len d1]; exact small6 hl, fun p np ns => q _ _ (s1.trans (sameNew np)) (.lst upd_same (occ_ne (occ oc s1) np).1 (occ_ne (occ oc s1) np).2 ns (d1.lasts (.of (sameNew np))))⟩⟩
theorem lit_dict : PE X (.Dict [] [] pos) (tLit X.K (.dict [])) :=
  pe_mono pe_dnewK fun σ H Q ⟨st, r, oc, q⟩ => fun p np => q _ _ (sameNew np) (.dct (kvs := []) upd_same)
theorem lit_rep {e2 : Expr} {n : Int} (k : Nat) (h : PE X e (tLit X.K (.tuple ds))) (h2 : PE X e2 (tC (.int n))) (hk : n = (k : Nat)) (h1 : k ≠ 1) (hne : ds ≠ []) (hk2 : k ≤ 1000) (hl : ds.length ≤ 1000) :
    PE X (.BinOp e .Mult e2 pos) (tLit X.K (.tuple (List.replicate k ds).flatten)) :=
  pe_mono (pe_op op_repA h h2) fun σ H Q ⟨st, r, oc, q⟩ => ⟨st, r, oc, fun H1 v s1 d1 => by
    cases d1 with
    | @tup a xs _ hT ha =>
      have hx := DqAll.len ha
      refine ⟨a, k, xs, rfl, by rw [hk], hT, ?_, hk2, by omega, fun z => absurd z h1, fun _ p np => q _ _ (s1.trans (sameNew np)) (.tup (SqT.of upd_same) ((ha.rep k).lasts (.of (sameNew np))))⟩
      intro z
      subst z
      exact hne (List.eq_nil_of_length_eq_zero (by simpa using hx.symm))⟩
end
/-- a list and a written list behind it -/
theorem cat_lits {K : PySem.W.Frag} {st r L : Addr} {σ : L2.St} {H1 : Hp} {ds es : List PyData} {Q : VK} {vs : List V} (e1 : H1 L = some (.lst vs)) (h1 : DqAll K st r H1 vs ds) (hoc : H1 st ≠ none ∧ H1 r ≠ none) (hlen : ds.length + es.length ≤ 1000000)
    (hq : ∀ H' L' vs', Same H1 H' → H' L' = some (.lst vs') → L' ≠ st → L' ≠ r → DqAll K st r H' vs' (ds ++ es) → Q (.ref L') H') : tLst (tLits K es) σ H1 (fun y H2 => rCat (.ref L) y H2 Q) := by
  refine ⟨st, r, hoc, fun H2 v2 s2 h2 => ⟨by rw [DqAll.len h2]; exact small6 (by omega), fun M nM => ?_⟩⟩
  refine ⟨L, M, vs, v2, rfl, rfl, upNew nM (s2 _ _ e1), upd_same, by rw [DqAll.len h1, DqAll.len h2]; exact small6 (by omega), fun N nN => ?_⟩
  have sM := sameNew (o := .lst v2) nM
  have sN := sameNew (o := .lst (vs ++ v2)) nN
  have s1N := (s2.trans sM).trans sN
  have hN := occ_ne (occ (occ hoc s2) sM) nN
  exact hq _ N _ s1N upd_same hN.1 hN.2 ((h1.lasts (.of s1N)).app (h2.lasts (.of (sM.trans sN))))
/-! how large, by looking -/
mutual
def fitB (M L : Nat) : PyData → Bool
  | .none => true
  | .bool _ => true
  | .int i => decide (i.natAbs ≤ M)
  | .str x => decide ((reprText x).length ≤ L)
  | .list xs => fitAllB M L xs
  | .tuple xs => fitAllB M L xs
  | .dict kvs => decide ((PyData.shown (.dict kvs)).length ≤ 40) && PyData.showable (.dict kvs)
def fitAllB (M L : Nat) : List PyData → Bool
  | [] => true
  | x :: xs => fitB M L x && fitAllB M L xs
end
end Pv

namespace Pv
open PySem PySem.Spec PyProof.Rows L2
section
variable {K : PySem.W.Frag} {H : Hp} {a b : Addr} {xs ys : List V} {Q : VK}
/-! slices and sums of tuples, whichever object comes back -/
theorem take_eq (hP : SqT K H a xs) (n : Nat) (h : ∀ (H' : Hp) (b : Addr), Same H H' → SqT K H' b (xs.take n) → Q (.ref b) H') : rSlA K (.ref a) none (some (n : Int)) H Q := by
  have hcut : cutV xs none (some (n : Int)) = xs.take n := cut_to _ n
  refine ⟨a, _, rfl, hP, fun hw => ?_, fun _ p np => ?_⟩
  · refine h H a (Same.refl _) ?_
    have e : xs.take n = xs := by
      rw [← hcut]
      unfold cutV
      rw [hw.1, hw.2, List.drop_zero, Nat.sub_zero, List.take_length]
    rw [e]; exact hP
  · refine h _ p (sameNew np) (SqT.of ?_)
    rw [upd_same, hcut]
theorem cut_tail (xs : List V) (n : Nat) : cutV xs (some (n : Int)) none = xs.drop n := by
  unfold cutV
  rw [HT.sIx_nat, HT.sIx_none]
  by_cases h : n ≤ xs.length
  · rw [Nat.min_eq_left h, List.take_of_length_le (by rw [List.length_drop]; exact Nat.le_refl _)]
  · rw [Nat.min_eq_right (by omega), List.drop_eq_nil_of_le (Nat.le_refl _), List.drop_eq_nil_of_le (by omega)]; simp
theorem drop_eq (hP : SqT K H a xs) (n : Nat) (h : ∀ (H' : Hp) (b : Addr), Same H H' → SqT K H' b (xs.drop n) → Q (.ref b) H') : rSlA K (.ref a) (some (n : Int)) none H Q := by
  have hcut := cut_tail xs n
  refine ⟨a, _, rfl, hP, fun hw => ?_, fun _ p np => ?_⟩
  · refine h H a (Same.refl _) ?_
    have e : xs.drop n = xs := by
      rw [← hcut]
      unfold cutV
      rw [hw.1, hw.2, List.drop_zero, Nat.sub_zero, List.take_length]
    rw [e]; exact hP
  · refine h _ p (sameNew np) (SqT.of ?_)
    rw [upd_same, hcut]
theorem cat_eq (ha : SqT K H a xs) (hb : SqT K H b ys) (hz : xs.length + ys.length ≤ sizeLine) (h : ∀ (H' : Hp) (p : Addr), Same H H' → SqT K H' p (xs ++ ys) → Q (.ref p) H') : rCatA K (.ref a) (.ref b) H Q := by
  refine ⟨a, b, xs, ys, rfl, rfl, ha, hb, hz, fun e => ?_, fun _ e => ?_, fun _ _ p np => ?_⟩
  · subst e; exact h H b (Same.refl _) (by simpa using hb)
  · subst e; exact h H a (Same.refl _) (by simpa using ha)
  · exact h _ p (sameNew np) (SqT.of upd_same)
end
/-! the greatest of a tuple of ints -/
def rMaxT (K : PySem.W.Frag) : RC := fun xs H Q => ∃ (a : Addr) (ns : List Int), xs = [.ref a] ∧ SqT K H a (ns.map V.int) ∧ 0 < ns.length ∧ ∀ m, m ∈ ns → (∀ y ∈ ns, y ≤ m) → Q (.int m) H
theorem call_maxT {X : Cx} (hc : X.calm = true) : CallR X (.builtin "max") (rMaxT X.K) := by
  intro pins s σ H xs us Q I r h
  obtain ⟨a, ns, rfl, hT, hne, q⟩ := h
  obtain ⟨u, rfl, rfl⟩ := vals1 r
  obtain ⟨its, rv, ht, hz⟩ := I.tuple hT
  have hi : IntsAre its ns := rv.ints
  obtain ⟨ys, e⟩ := hi.allInts.items
  have hn : numsOf (intItems ys).toList = ns := by rw [← e]; exact hi.numsOf
  rw [nums_intItems] at hn
  rw [e] at ht
  subst hn
  have hsz : 0 < ys.size := by simpa using hne
  have ht' : s.heap.IsTuple a (intItems ys) := ht
  have hlt : a < s.heap.objs.size := by obtain ⟨_, z, _⟩ := ht; exact Heap.lt_size z
  refine call_max_walk (wpAny_pyIter_tuple ht' ?_)
  refine ⟨_, _, _, _, _, _, _, rfl, Walks.tuple (A := X.A.in1) (I.ok.hd hc) _ a (Nat.ne_of_lt hlt) (intItems ys), ⟨⟨_, Heap.get?_push_size _ rfl, rfl, rfl⟩, ht'.push _⟩, ?_, by simpa [intItems] using hsz, CmpOf.ints_gt (numAt ys) (fun _ _ => intItems_at), ?_⟩
  · intro b hb
    show b < (s.heap.push _).objs.size
    rw [Heap.size_push]
    simp only [List.mem_cons, List.not_mem_nil, or_false] at hb
    rcases hb with rfl | rfl
    · exact Nat.lt_succ_self _
    · exact Nat.lt_succ_of_lt hlt
  · intro v h' tk hP hk
    have hP' : (intItems ys)[argBest (fun i j => decide (numAt ys i > numAt ys j)) (ys.size - 1)]? = some v := by simpa [intItems] using hP
    obtain ⟨t, rfl⟩ := intItems_at hP'
    obtain ⟨h1, h2⟩ := argBest_gt (numAt ys) (ys.size - 1)
    refine ⟨.int _, H, I.kept (t' := tk) (h' := h') ?_, ⟨_, rfl⟩, q _ ?_ ?_⟩
    · intro b o eb
      refine hk b o (fun hm => ?_) (Heap.get?_push_of_some _ eb)
      exact absurd (Heap.lt_size eb) ((List.mem_singleton.mp hm) ▸ Nat.lt_irrefl _)
    · rw [numAt_eq]; exact PySem.getD_mem (by rw [List.length_map, Array.length_toList]; omega)
    · intro y hy
      obtain ⟨j, hj, rfl⟩ := mem_getD hy
      rw [List.length_map, Array.length_toList] at hj
      rw [← numAt_eq]; exact h2 j (by omega)
end Pv

namespace Pv
open PySem PySem.Spec PyProof.Rows L2
section
variable {X : Cx} {e : Expr}
theorem lit_neg {n : Int} (h : PE X e (tUn (rU fun i => .int (-i)) (tC (.int n)))) : PE X e (tLit X.K (.int (-n))) :=
  pe_mono h fun σ H Q ⟨st, r, _, q⟩ => ⟨n, rfl, q H _ (Same.refl H) (.int _)⟩
theorem lit_a1 (h : PE X e (tDisp [(tC (.str "a"), tC (.int 1))])) : PE X e (tLit X.K (.dict [(.str "a", .int 1)])) :=
  pe_mono h fun σ H Q ⟨st, r, oc, q⟩ => fun p np => ⟨upd_same, [(.inr "a", .int 1)], rfl, by decide, by
    rw [upd_upd]
    exact q _ _ (sameNew np) (.dct (kvs := [(.inr "a", 1)]) (by rw [upd_same]; rfl))⟩
end
section
variable {K : PySem.W.Frag} {H : Hp} {a b : Addr} {xs ys : List V} {Q : VK}
theorem sl_any (hP : SqT K H a xs) (lo hi : Option Int) (h : ∀ (H' : Hp) (b : Addr), Same H H' → SqT K H' b (cutV xs lo hi) → Q (.ref b) H') : rSlA K (.ref a) lo hi H Q := by
  refine ⟨a, _, rfl, hP, fun hw => ?_, fun _ p np => ?_⟩
  · refine h H a (Same.refl _) ?_
    have e : cutV xs lo hi = xs := by
      unfold cutV
      rw [hw.1, hw.2, List.drop_zero, Nat.sub_zero, List.take_length]
    rw [e]; exact hP
  · exact h _ p (sameNew np) (SqT.of upd_same)
theorem cut_ints (xs : List Int) (lo hi : Option Int) : ∃ zs : List Int, cutV (xs.map V.int) lo hi = zs.map V.int ∧ zs.length ≤ xs.length ∧ ∀ z ∈ zs, z ∈ xs := by
  unfold cutV
  generalize HT.sIx (xs.map V.int).length 0 lo = m
  generalize HT.sIx (xs.map V.int).length (xs.map V.int).length hi - m = n
  refine ⟨(xs.drop m).take n, by rw [List.map_take, List.map_drop], ?_, fun z hz => List.mem_of_mem_drop (List.mem_of_mem_take hz)⟩
  rw [List.length_take, List.length_drop]; omega
end
/-! a tuple of ints, of at most L and at most M in size -/
def IT (K : PySem.W.Frag) (H : Hp) (p : Addr) (L M : Nat) : Prop := ∃ xs : List Int, SqT K H p (xs.map V.int) ∧ xs.length ≤ L ∧ ∀ x ∈ xs, x.natAbs ≤ M
section
variable {K : PySem.W.Frag} {H H' : Hp} {a b : Addr} {L L' M M' : Nat} {Q : VK}
theorem IT.tk (h : IT K H a L M) (s : TupK H H') : IT K H' a L M := by obtain ⟨xs, h1, h2⟩ := h; exact ⟨xs, s.sq h1, h2⟩
theorem IT.same (h : IT K H a L M) (s : Same H H') : IT K H' a L M := h.tk (.of s)
theorem IT.mono (h : IT K H a L M) (h1 : L ≤ L') (h2 : M ≤ M') : IT K H a L' M' := by obtain ⟨xs, e, l, m⟩ := h; exact ⟨xs, e, by omega, fun x hx => by have := m x hx; omega⟩
theorem IT.cut (h : IT K H a L M) (lo hi : Option Int) (q : ∀ (H' : Hp) (b : Addr), Same H H' → IT K H' b L M → Q (.ref b) H') : rSlA K (.ref a) lo hi H Q := by
  obtain ⟨xs, e, l, m⟩ := h
  obtain ⟨zs, ez, lz, mz⟩ := cut_ints xs lo hi
  exact sl_any e lo hi fun H' b s hb => q H' b s ⟨zs, by rw [← ez]; exact hb, by omega, fun z hz => m z (mz z hz)⟩
theorem IT.cat (h : IT K H a L M) (h' : IT K H b L' M) (hs : L + L' ≤ 1000000) (q : ∀ (H' : Hp) (p : Addr), Same H H' → IT K H' p (L + L') M → Q (.ref p) H') : rCatA K (.ref a) (.ref b) H Q := by
  obtain ⟨xs, e, l, m⟩ := h
  obtain ⟨ys, e', l', m'⟩ := h'
  refine cat_eq e e' (by rw [List.length_map, List.length_map]; exact small6 (by omega)) fun H' p s hp => q H' p s ⟨xs ++ ys, by rw [List.map_append]; exact hp, by rw [List.length_append]; omega, fun z hz => ?_⟩
  rcases List.mem_append.mp hz with h | h
  · exact m z h
  · exact m' z h
theorem IT.dq {st r : Addr} (h : IT K H a L M) : ∃ xs : List Int, Dq K st r H (.ref a) (dI xs) ∧ xs.length ≤ L ∧ ∀ x ∈ xs, x.natAbs ≤ M := by
  obtain ⟨xs, e, l, m⟩ := h
  exact ⟨xs, .of_dp (to_ints xs) (dI_sq e), l, m⟩
end
/-! a comprehension whose elements are new objects: R tells what they show -/
def LcR {α β : Type} (R : Hp → V → β → Prop) (H1 : Hp) (D : Addr) (zs : List α) (F : α → Option β) (i : Nat) (H : Hp) : Prop := Same H1 H ∧ ∃ vs, H D = some (.lst vs) ∧ Rl (R H) vs ((zs.take i).filterMap F)
section
variable {α β : Type} {R : Hp → V → β → Prop} {H1 H H' : Hp} {D : Addr} {zs : List α} {F : α → Option β} {i : Nat} {x : α} {y : V} {b : β}
theorem LcR.start (nD : H1 D = none) : LcR R H1 D zs F 0 (upd H1 D (.lst [])) := ⟨sameNew nD, [], upd_same, by simpa using Rl.nil⟩
theorem LcR.yes (hR : ∀ H H' v b, TupK H H' → R H v b → R H' v b) (h : LcR R H1 D zs F i H) (nD : H1 D = none) (s : Same H H') (hx : zs[i]? = some x) (hF : F x = some b) (hy : R H' y b) (hi : i ≤ 1000000) : ∃ acc, H' D = some (.lst acc) ∧ acc.length < sizeLine ∧ LcR R H1 D zs F (i + 1) (upd H' D (.lst (acc ++ [y]))) := by
  obtain ⟨s1, vs, e, hv⟩ := h
  have e' := s _ _ e
  refine ⟨vs, e', ?_, samePut (s1.trans s) nD, vs ++ [y], upd_same, ?_⟩
  · have h1 := List.length_filterMap_le F (zs.take i)
    have h2 := List.length_take_le i zs
    rw [hv.1]
    exact small (by omega)
  · have tk : TupK H' (upd H' D (.lst (vs ++ [y]))) := TupK.put e'
    rw [take_snoc hx, List.filterMap_append]
    simp only [List.filterMap_cons, hF, List.filterMap_nil]
    exact Rl.snoc (hv.mono fun v r h => hR _ _ _ _ ((TupK.of s).trans tk) h) (hR _ _ _ _ tk hy)
theorem LcR.no (hR : ∀ H H' v b, TupK H H' → R H v b → R H' v b) (h : LcR R H1 D zs F i H) (s : Same H H') (hx : zs[i]? = some x) (hF : F x = none) : LcR R H1 D zs F (i + 1) H' := by
  obtain ⟨s1, vs, e, hv⟩ := h
  refine ⟨s1.trans s, vs, s _ _ e, ?_⟩
  rw [take_snoc hx, List.filterMap_append]
  simp only [List.filterMap_cons, hF, List.filterMap_nil, List.append_nil]
  exact hv.mono fun v r h => hR _ _ _ _ (.of s) h
theorem LcR.done (h : LcR R H1 D zs F i H) (hi : zs.length ≤ i) : ∃ vs, H D = some (.lst vs) ∧ Rl (R H) vs (zs.filterMap F) := by
  obtain ⟨_, vs, e, hv⟩ := h
  rw [List.take_of_length_le hi] at hv
  exact ⟨vs, e, hv⟩
end
end Pv

namespace Pv
open PySem PySem.Spec PyProof.Rows L2
/-! another drawing state: a list of the great numbers that are left, one number of the whole script, and how often it was mixed -/
structure DV (H : Hp) (st g : Addr) (t : Nat) : Prop where
  ex : ∃ (w : Int) (k : Nat) (gr : List Int), H st = some (.lst [.ref g, .int w, .int k]) ∧ H g = some (.lst (gr.map V.int)) ∧ 0 ≤ w ∧ w < 2305843009213693951 ∧ k ≤ t ∧ gr.length ≤ 63
  n1 : st ≠ g
section
variable {H H1 H2 : Hp} {st g p : Addr} {t : Nat} {o : HO}
theorem DV.tup (d : DV H st g t) (e : Ext st g H H1) : TupK H H1 := by
  obtain ⟨w, k, gr, hs, hg, _⟩ := d.ex
  intro b xs
  refine ⟨fun h => ?_, fun u h => ?_⟩
  · exact e _ _ h (ne_of h hs (by intro z; cases z)) (ne_of h hg (by intro z; cases z))
  · exact e _ _ h (ne_of h hs (by intro z; cases z)) (ne_of h hg (by intro z; cases z))
theorem DV.same (d : DV H st g t) (s : Same H H1) : DV H1 st g t := by
  obtain ⟨w, k, gr, hs, hg, q⟩ := d.ex
  exact ⟨⟨w, k, gr, s _ _ hs, s _ _ hg, q⟩, d.n1⟩
theorem DV.new (d : DV H st g t) (np : H p = none) : DV (upd H p o) st g t := d.same (sameNew np)
theorem DV.put (d : DV H st g t) (h1 : p ≠ st) (h2 : p ≠ g) : DV (upd H p o) st g t := by
  obtain ⟨w, k, gr, hs, hg, q⟩ := d.ex
  exact ⟨⟨w, k, gr, by rw [upd_ne h1.symm]; exact hs, by rw [upd_ne h2.symm]; exact hg, q⟩, d.n1⟩
theorem DV.off (d : DV H st g t) (np : H p = none) : p ≠ st ∧ p ≠ g := by
  obtain ⟨w, k, gr, hs, hg, q⟩ := d.ex
  exact ⟨(ne_of_none hs np).symm, (ne_of_none hg np).symm⟩
theorem DV.nil (d : DV H1 st g t) (x : Ext st g H H1) (np : H1 p = none) : H p = none := by
  obtain ⟨o1, o2⟩ := d.off np
  cases e : H p with
  | none => rfl
  | some o => have := x _ _ e o1 o2; rw [np] at this; cases this
theorem DV.lasts (d : DV H st g t) (x : Ext st g H H1) : Lasts st g H H1 := by
  obtain ⟨w, k, gr, hs, hg, _⟩ := d.ex
  refine ⟨d.tup x, fun a xs e n1 n2 => x _ _ e n1 n2, fun a kvs e => ?_⟩
  exact x _ _ e (ne_of e hs (by intro z; cases z)) (ne_of e hg (by intro z; cases z))
theorem DV.mono (d : DV H st g t) {t' : Nat} (h : t ≤ t') : DV H st g t' := by
  obtain ⟨w, k, gr, hs, hg, h1, h2, h3, h4⟩ := d.ex
  exact ⟨⟨w, k, gr, hs, hg, h1, h2, by omega, h4⟩, d.n1⟩
theorem DV.occ (d : DV H st g t) : H st ≠ none ∧ H g ≠ none := by
  obtain ⟨w, k, gr, hs, hg, _⟩ := d.ex
  exact ⟨by rw [hs]; simp, by rw [hg]; simp⟩
end
end Pv

namespace Pv
open PySem PySem.Spec PyProof.Rows L2
/-! data whose lists stand at none of the places X -/
mutual
inductive Dw (K : PySem.W.Frag) (X : Addr → Prop) (H : Hp) : V → PyData → Prop
  | non : Dw K X H .non .none
  | bl (b : Bool) : Dw K X H (.bl b) (.bool b)
  | int (i : Int) : Dw K X H (.int i) (.int i)
  | str (x : Str) : Dw K X H (.str x) (.str x)
  | lst {a : Addr} {xs : List V} {ds : List PyData} : H a = some (.lst xs) → ¬ X a → a ≠ sysModules → DwAll K X H xs ds → Dw K X H (.ref a) (.list ds)
  | tup {a : Addr} {xs : List V} {ds : List PyData} : SqT K H a xs → DwAll K X H xs ds → Dw K X H (.ref a) (.tuple ds)
  | dct {a : Addr} {kvs : List (Key × Int)} : H a = some (.dK (kvs.map fun p => (p.1, V.int p.2))) → Dw K X H (.ref a) (.dict (kvs.map fun p => (kD p.1, .int p.2)))
inductive DwAll (K : PySem.W.Frag) (X : Addr → Prop) (H : Hp) : List V → List PyData → Prop
  | nil : DwAll K X H [] []
  | cons {v : V} {vs : List V} {d : PyData} {ds : List PyData} : Dw K X H v d → DwAll K X H vs ds → DwAll K X H (v :: vs) (d :: ds)
end
structure LX (X : Addr → Prop) (H H' : Hp) : Prop where
  tk : TupK H H'
  ls : ∀ a xs, H a = some (.lst xs) → ¬ X a → H' a = some (.lst xs)
  dk : ∀ a kvs, H a = some (.dK kvs) → H' a = some (.dK kvs)
section
variable {K : PySem.W.Frag} {X X' : Addr → Prop} {H H' H2 : Hp} {st g : Addr} {t : Nat}
theorem LX.refl : LX X H H := ⟨.refl _, fun _ _ e _ => e, fun _ _ e => e⟩
theorem LX.of (s : Same H H') : LX X H H' := ⟨.of s, fun a xs e _ => s _ _ e, fun a kvs e => s _ _ e⟩
theorem LX.trans (a : LX X H H') (b : LX X H' H2) : LX X H H2 := ⟨a.tk.trans b.tk, fun p xs e n => b.ls _ _ (a.ls _ _ e n) n, fun p kvs e => b.dk _ _ (a.dk _ _ e)⟩
theorem LX.ext (d : DV H st g t) (x : Ext st g H H') (h1 : X st) (h2 : X g) : LX X H H' := by
  have l := d.lasts x
  exact ⟨l.tk, fun a xs e n => l.ls a xs e (fun z => n (z ▸ h1)) (fun z => n (z ▸ h2)), l.dk⟩
theorem LX.put {D : Addr} {ys : List V} {o : HO} (e : H D = some (.lst ys)) (h : X D) : LX X H (upd H D o) :=
  ⟨TupK.put e, fun a xs ea n => by rw [upd_ne (show a ≠ D from fun z => n (by rw [z]; exact h))]; exact ea, fun a kvs ea => by rw [upd_ne (ne_of ea e (by intro z; cases z))]; exact ea⟩
mutual
theorem Dw.lx (l : LX X H H') : ∀ {d : PyData} {v : V}, Dw K X H v d → Dw K X H' v d
  | .none, _, h => by cases h; exact .non
  | .bool _, _, h => by cases h; exact .bl _
  | .int _, _, h => by cases h; exact .int _
  | .str _, _, h => by cases h; exact .str _
  | .list _, _, h => by
    cases h with
    | lst e n1 n3 hd => exact .lst (l.ls _ _ e n1) n1 n3 (DwAll.lx l hd)
  | .tuple _, _, h => by
    cases h with
    | tup e hd => exact .tup (l.tk.sq e) (DwAll.lx l hd)
  | .dict _, _, h => by
    cases h with
    | dct e => exact .dct (l.dk _ _ e)
theorem DwAll.lx (l : LX X H H') : ∀ {ds : List PyData} {vs : List V}, DwAll K X H vs ds → DwAll K X H' vs ds
  | [], _, h => by cases h; exact .nil
  | _ :: _, _, h => by
    cases h with
    | cons h1 h2 => exact .cons (Dw.lx l h1) (DwAll.lx l h2)
end
mutual
theorem Dw.weak (l : ∀ a, X' a → X a) : ∀ {d : PyData} {v : V}, Dw K X H v d → Dw K X' H v d
  | .none, _, h => by cases h; exact .non
  | .bool _, _, h => by cases h; exact .bl _
  | .int _, _, h => by cases h; exact .int _
  | .str _, _, h => by cases h; exact .str _
  | .list _, _, h => by
    cases h with
    | lst e n1 n3 hd => exact .lst e (fun z => n1 (l _ z)) n3 (DwAll.weak l hd)
  | .tuple _, _, h => by
    cases h with
    | tup e hd => exact .tup e (DwAll.weak l hd)
  | .dict _, _, h => by
    cases h with
    | dct e => exact .dct e
theorem DwAll.weak (l : ∀ a, X' a → X a) : ∀ {ds : List PyData} {vs : List V}, DwAll K X H vs ds → DwAll K X' H vs ds
  | [], _, h => by cases h; exact .nil
  | _ :: _, _, h => by
    cases h with
    | cons h1 h2 => exact .cons (Dw.weak l h1) (DwAll.weak l h2)
end
mutual
theorem Dw.dq {r : Addr} (h1 : X st) (h2 : X r) : ∀ {d : PyData} {v : V}, Dw K X H v d → Dq K st r H v d
  | .none, _, h => by cases h; exact .non
  | .bool _, _, h => by cases h; exact .bl _
  | .int _, _, h => by cases h; exact .int _
  | .str _, _, h => by cases h; exact .str _
  | .list _, _, h => by
    cases h with
    | lst e n1 n3 hd => exact .lst e (fun z => n1 (z ▸ h1)) (fun z => n1 (z ▸ h2)) n3 (DwAll.dq h1 h2 hd)
  | .tuple _, _, h => by
    cases h with
    | tup e hd => exact .tup e (DwAll.dq h1 h2 hd)
  | .dict _, _, h => by
    cases h with
    | dct e => exact .dct e
theorem DwAll.dq {r : Addr} (h1 : X st) (h2 : X r) : ∀ {ds : List PyData} {vs : List V}, DwAll K X H vs ds → DqAll K st r H vs ds
  | [], _, h => by cases h; exact .nil
  | _ :: _, _, h => by
    cases h with
    | cons a b => exact .cons (Dw.dq h1 h2 a) (DwAll.dq h1 h2 b)
end
mutual
theorem Dw.of_dp : ∀ {d : PyData} {v : V}, tupOnly d = true → Dp K H v d → Dw K X H v d
  | .none, _, _, h => by cases h; exact .non
  | .bool _, _, _, h => by cases h; exact .bl _
  | .int _, _, _, h => by cases h; exact .int _
  | .str _, _, _, h => by cases h; exact .str _
  | .list _, _, t, _ => by simp [tupOnly] at t
  | .tuple _, _, t, h => by
    cases h with
    | tup e hd => exact .tup e (DwAll.of_dp (by simpa [tupOnly] using t) hd)
  | .dict _, _, t, _ => by simp [tupOnly] at t
theorem DwAll.of_dp : ∀ {ds : List PyData} {vs : List V}, tupOnlyAll ds = true → DpAll K H vs ds → DwAll K X H vs ds
  | [], _, _, h => by cases h; exact .nil
  | d :: ds, _, t, h => by
    have t' : tupOnly d = true ∧ tupOnlyAll ds = true := by simpa [tupOnlyAll] using t
    cases h with
    | cons h1 h2 => exact .cons (Dw.of_dp t'.1 h1) (DwAll.of_dp t'.2 h2)
end
theorem DwAll.len : ∀ {vs : List V} {ds : List PyData}, DwAll K X H vs ds → vs.length = ds.length
  | _, _, .nil => rfl
  | _, _, .cons _ t => by simp [DwAll.len t]
theorem DwAll.at : ∀ {vs : List V} {ds : List PyData} {i : Nat} {v : V}, DwAll K X H vs ds → vs[i]? = some v → ∃ d, ds[i]? = some d ∧ Dw K X H v d
  | _, _, _, _, .nil, e => by simp at e
  | _, _, 0, _, .cons h _, e => by simp at e; subst e; exact ⟨_, rfl, h⟩
  | _, _, i + 1, v, .cons _ t, e => by
    obtain ⟨d, h1, h2⟩ := DwAll.at (i := i) t (by simpa using e)
    exact ⟨d, by simpa using h1, h2⟩
theorem DwAll.app : ∀ {vs ws : List V} {ds es : List PyData}, DwAll K X H vs ds → DwAll K X H ws es → DwAll K X H (vs ++ ws) (ds ++ es)
  | _, _, _, _, .nil, h => h
  | _, _, _, _, .cons h t, h' => .cons h (DwAll.app t h')
theorem DwAll.snoc {vs : List V} {ds : List PyData} {v : V} {d : PyData} (h : DwAll K X H vs ds) (h' : Dw K X H v d) : DwAll K X H (vs ++ [v]) (ds ++ [d]) := h.app (.cons h' .nil)
end
/-- all that stands -/
def dom (H : Hp) (a : Addr) : Prop := H a ≠ none
theorem dom_same {H H' : Hp} (s : Same H H') {a : Addr} (h : dom H a) : dom H' a := by
  unfold dom at *
  cases e : H a with
  | none => exact absurd e h
  | some o => rw [s _ _ e]; simp
theorem dom_new {H H' : Hp} (s : Same H H') {p : Addr} (np : H' p = none) : ¬ dom H p := fun h => dom_same s h np
/-! written values -/
def tLw (K : PySem.W.Frag) (d : PyData) : TE := fun _ H Q => ∃ X : Addr → Prop, (∀ a, X a → dom H a) ∧ ∀ H' v, Same H H' → Dw K X H' v d → Q v H'
def tLws (K : PySem.W.Frag) (ds : List PyData) : TA := fun _ H Q => ∃ X : Addr → Prop, (∀ a, X a → dom H a) ∧ ∀ H' vs, Same H H' → DwAll K X H' vs ds → Q vs H'
section
variable {X : Cx} {e : Expr} {es : List Expr} {pos p1 p2 : Pos} {d : PyData} {ds : List PyData}
theorem lw_c {v : V} (h : PE X e (tC v)) (hd : ∀ Y H, Dw X.K Y H v d) : PE X e (tLw X.K d) := pe_mono h fun σ H Q ⟨Y, _, q⟩ => q H v (Same.refl H) (hd Y H)
theorem lw_int {n : Int} (h : PE X e (tC (.int n))) : PE X e (tLw X.K (.int n)) := lw_c h fun _ _ => .int n
theorem lw_bl {b : Bool} (h : PE X e (tC (.bl b))) : PE X e (tLw X.K (.bool b)) := lw_c h fun _ _ => .bl b
theorem lw_str {x : Str} (h : PE X e (tC (.str x))) : PE X e (tLw X.K (.str x)) := lw_c h fun _ _ => .str x
theorem lw_non (h : PE X e (tC .non)) : PE X e (tLw X.K .none) := lw_c h fun _ _ => .non
theorem lw_neg {n : Int} (h : PE X e (tUn (rU fun i => .int (-i)) (tC (.int n)))) : PE X e (tLw X.K (.int (-n))) :=
  pe_mono h fun σ H Q ⟨Y, _, q⟩ => ⟨n, rfl, q H _ (Same.refl H) (.int _)⟩
theorem lw_pow {a b : Int} (h : PE X e (tOp (rI CPow fun i j => .int (i ^ j.toNat)) (tC (.int a)) (tC (.int b)))) (hc : CPow a b) : PE X e (tLw X.K (.int (a ^ b.toNat))) :=
  pe_mono h fun σ H Q ⟨Y, _, q⟩ => ⟨a, b, rfl, rfl, hc, q H _ (Same.refl H) (.int _)⟩
theorem lw_add {e1 e2 : Expr} {a b : Int} (h1 : PE X e1 (tLw X.K (.int a))) (h2 : PE X e2 (tLw X.K (.int b))) : PE X (.BinOp e1 .Add e2 pos) (tLw X.K (.int (a + b))) :=
  pe_mono (pe_op op_add h1 h2) fun σ H Q ⟨Y, oc, q⟩ => ⟨Y, oc, fun H1 v1 s1 d1 => ⟨Y, fun a h => dom_same s1 (oc a h), fun H2 v2 s2 d2 => by
    cases d1; cases d2
    exact ⟨a, b, rfl, rfl, q H2 _ (s1.trans s2) (.int _)⟩⟩⟩
theorem lws_nil : PA X [] (tLws X.K []) := pa_mono pa_nil fun σ H Q ⟨Y, _, q⟩ => q H [] (Same.refl H) .nil
theorem lws_cons (h : PE X e (tLw X.K d)) (hs : PA X es (tLws X.K ds)) (hq : starEach (e :: es) X.env = (false, eval e X.env) :: starEach es X.env := by rfl) : PA X (e :: es) (tLws X.K (d :: ds)) :=
  pa_mono (pa_cons h hs hq) fun σ H Q ⟨Y, oc, q⟩ => ⟨Y, oc, fun H1 v s1 d1 => ⟨Y, fun a h => dom_same s1 (oc a h), fun H2 vs s2 d2 => q H2 _ (s1.trans s2) (.cons (d1.lx (.of s2)) d2)⟩⟩
theorem lw_tup {k : Nat} (h : PA X es (tLws X.K ds)) (hl : ds.length ≤ 1000000) : PE X (.Tuple es k pos) (tLw X.K (.tuple ds)) :=
  pe_mono (pe_tup h) fun σ H Q ⟨Y, oc, q⟩ => ⟨Y, oc, fun H1 vs s1 d1 => ⟨by rw [DwAll.len d1]; exact small6 hl, fun p np => q _ _ (s1.trans (sameNew np)) (.tup (SqT.of upd_same) (d1.lx (.of (sameNew np))))⟩⟩
theorem lw_lst (h : PA X es (tLws X.K ds)) (hl : ds.length ≤ 1000000) : PE X (.List es pos) (tLw X.K (.list ds)) :=
  pe_mono (pe_lstS h) fun σ H Q ⟨Y, oc, q⟩ => ⟨Y, oc, fun H1 vs s1 d1 => ⟨by rw [DwAll.len d1]; exact small6 hl, fun p np ns => q _ _ (s1.trans (sameNew np)) (.lst upd_same (fun h => dom_new s1 np (oc _ h)) ns (d1.lx (.of (sameNew np))))⟩⟩
theorem lw_dict : PE X (.Dict [] [] pos) (tLw X.K (.dict [])) :=
  pe_mono pe_dnewK fun σ H Q ⟨Y, oc, q⟩ => fun p np => q _ _ (sameNew np) (.dct (kvs := []) upd_same)
theorem lw_a1 (h : PE X e (tDisp [(tC (.str "a"), tC (.int 1))])) : PE X e (tLw X.K (.dict [(.str "a", .int 1)])) :=
  pe_mono h fun σ H Q ⟨Y, oc, q⟩ => fun p np => ⟨upd_same, [(.inr "a", .int 1)], rfl, by decide, by
    rw [upd_upd]
    exact q _ _ (sameNew np) (.dct (kvs := [(.inr "a", 1)]) (by rw [upd_same]; rfl))⟩
end
end Pv

namespace Pv
open PySem PySem.Spec PyProof.Rows L2
/-! how large data is -/
mutual
def fit (M : Nat) : PyData → Prop
  | .none => True
  | .bool _ => True
  | .int i => i.natAbs ≤ M
  | .str x => (reprText x).length ≤ 400
  | .list xs => fitAll M xs
  | .tuple xs => fitAll M xs
  | .dict kvs => (PyData.shown (.dict kvs)).length ≤ 40 ∧ PyData.showable (.dict kvs) = true
def fitAll (M : Nat) : List PyData → Prop
  | [] => True
  | x :: xs => fit M x ∧ fitAll M xs
end
mutual
def wt : PyData → Nat
  | .none => 40
  | .bool _ => 40
  | .int _ => 40
  | .str _ => 400
  | .list xs => wtAll xs + 3
  | .tuple xs => wtAll xs + 3
  | .dict _ => 40
def wtAll : List PyData → Nat
  | [] => 0
  | x :: xs => wt x + 2 + wtAll xs
end
theorem int_text {i : Int} {M : Nat} (h : i.natAbs ≤ M) (hM : M < 10 ^ 35) : (PyData.int i).showable = true ∧ (PyData.int i).shown.length ≤ 40 := by
  have h' : i.natAbs < 10 ^ 35 := by omega
  refine ⟨?_, ?_⟩
  · simp only [PyData.showable, decide_eq_true_eq]
    have : i.natAbs.log2 < 200 := by
      by_cases h0 : i.natAbs = 0
      · rw [h0]; decide
      · exact (Nat.log2_lt h0).mpr (Nat.lt_trans h' (by decide))
    omega
  · have e := int_text_length_le10 (k := 35) (by decide) h'
    show (Str.ofString (toString i)).length ≤ 40
    rw [PySem.ofString_length]
    omega
mutual
theorem fit_ok {M : Nat} (hM : M < 10 ^ 35) : ∀ {d : PyData}, fit M d → d.showable = true ∧ d.shown.length ≤ wt d
  | .none, _ => by simp only [PyData.showable, PyData.shown, wt]; decide
  | .bool b, _ => by cases b <;> (simp only [PyData.showable, PyData.shown, wt]; decide)
  | .int i, h => by
    have := int_text (i := i) (M := M) (by simpa only [fit] using h) hM
    simp only [wt]; exact this
  | .str x, h => by simp only [fit] at h; simp only [PyData.showable, PyData.shown, wt]; exact ⟨trivial, h⟩
  | .list xs, h => by
    obtain ⟨h1, h2⟩ := fitAll_ok hM (xs := xs) (by simpa only [fit] using h)
    simp only [PyData.showable, PyData.shown, wt]
    refine ⟨h1, ?_⟩
    have e := listText_len_le (PyData.shownAll xs)
    omega
  | .tuple xs, h => by
    obtain ⟨h1, h2⟩ := fitAll_ok hM (xs := xs) (by simpa only [fit] using h)
    simp only [PyData.showable, PyData.shown, wt]
    refine ⟨h1, ?_⟩
    have e := tupleText_len_le (PyData.shownAll xs)
    omega
  | .dict kvs, h => by simp only [fit] at h; simp only [wt]; exact ⟨h.2, h.1⟩
theorem fitAll_ok {M : Nat} (hM : M < 10 ^ 35) : ∀ {xs : List PyData}, fitAll M xs → PyData.showableAll xs = true ∧ ((PyData.shownAll xs).map (·.length)).sum + 2 * (PyData.shownAll xs).length ≤ wtAll xs
  | [], _ => by simp [PyData.showableAll, PyData.shownAll, wtAll]
  | x :: xs, h => by
    have h' : fit M x ∧ fitAll M xs := by simpa only [fitAll] using h
    obtain ⟨a1, a2⟩ := fit_ok hM h'.1
    obtain ⟨b1, b2⟩ := fitAll_ok hM h'.2
    refine ⟨by simp [PyData.showableAll, a1, b1], ?_⟩
    simp only [PyData.shownAll, List.map_cons, List.sum_cons, List.length_cons, wtAll]
    omega
end
mutual
theorem fit_mono {M M' : Nat} (h : M ≤ M') : ∀ {d : PyData}, fit M d → fit M' d
  | .none, _ => by simp [fit]
  | .bool _, _ => by simp [fit]
  | .int i, q => by simp only [fit] at *; omega
  | .str x, q => by simpa only [fit] using q
  | .list xs, q => by simp only [fit] at *; exact fitAll_mono h q
  | .tuple xs, q => by simp only [fit] at *; exact fitAll_mono h q
  | .dict _, q => by simpa only [fit] using q
theorem fitAll_mono {M M' : Nat} (h : M ≤ M') : ∀ {xs : List PyData}, fitAll M xs → fitAll M' xs
  | [], _ => by simp [fitAll]
  | x :: xs, q => by
    have q' : fit M x ∧ fitAll M xs := by simpa only [fitAll] using q
    simp only [fitAll]
    exact ⟨fit_mono h q'.1, fitAll_mono h q'.2⟩
end
theorem fitAll_iff {M : Nat} : ∀ {xs : List PyData}, fitAll M xs ↔ ∀ x ∈ xs, fit M x
  | [] => by simp [fitAll]
  | x :: xs => by simp [fitAll, fitAll_iff (xs := xs)]
theorem wtAll_app : ∀ (xs ys : List PyData), wtAll (xs ++ ys) = wtAll xs + wtAll ys
  | [], ys => by simp [wtAll]
  | x :: xs, ys => by simp only [List.cons_append, wtAll, wtAll_app xs ys]; omega
theorem wtAll_rev : ∀ xs : List PyData, wtAll xs.reverse = wtAll xs
  | [] => rfl
  | x :: xs => by rw [List.reverse_cons, wtAll_app, wtAll_rev xs]; simp only [wtAll]; omega
theorem wtAll_split (xs : List PyData) (n : Nat) : wtAll xs = wtAll (xs.take n) + wtAll (xs.drop n) := by rw [← wtAll_app, List.take_append_drop]
theorem wtAll_len : ∀ xs : List PyData, 2 * xs.length ≤ wtAll xs
  | [] => by simp [wtAll]
  | x :: xs => by have := wtAll_len xs; simp only [wtAll, List.length_cons]; omega
theorem depthAll_le {k : Nat} : ∀ {xs : List PyData}, PyData.depthAll xs ≤ k ↔ ∀ x ∈ xs, x.depth ≤ k
  | [] => by simp [PyData.depthAll]
  | x :: xs => by
    have := depthAll_le (k := k) (xs := xs)
    simp only [PyData.depthAll, List.mem_cons, forall_eq_or_imp, ← this]
    omega
structure Fit (M k W : Nat) (d : PyData) : Prop where
  ok : fit M d
  dp : d.depth ≤ k
  wt : wt d ≤ W
theorem Fit.mono {M M' k k' W W' : Nat} {d : PyData} (h : Fit M k W d) (h1 : M ≤ M') (h2 : k ≤ k') (h3 : W ≤ W') : Fit M' k' W' d := ⟨fit_mono h1 h.ok, Nat.le_trans h.dp h2, Nat.le_trans h.wt h3⟩
theorem Fit.at {M k W : Nat} {ds : List PyData} {d : PyData} (h : Fit M k W (.tuple ds)) (hm : d ∈ ds) : Fit M (k - 1) W d ∧ d.depth + 1 ≤ (PyData.tuple ds).depth ∧ 1 ≤ k := by
  have h1 : fitAll M ds := by have := h.ok; simpa only [fit] using this
  have h2 := h.dp
  simp only [PyData.depth] at h2
  have h3 : ∀ x ∈ ds, x.depth ≤ PyData.depthAll ds := depthAll_le.mp (Nat.le_refl _)
  have h4 := h3 d hm
  refine ⟨⟨fitAll_iff.mp h1 d hm, by omega, ?_⟩, by simp only [PyData.depth]; omega, by omega⟩
  obtain ⟨a, b, rfl⟩ := List.append_of_mem hm
  have h5 := h.wt
  simp only [Pv.wt, wtAll_app, wtAll] at h5
  omega
/-- a tuple made of parts -/
theorem Fit.tup {M k W : Nat} {ds : List PyData} (h1 : ∀ d ∈ ds, fit M d ∧ d.depth + 1 ≤ k) (h0 : 1 ≤ k) (h2 : wtAll ds + 3 ≤ W) : Fit M k W (.tuple ds) := by
  refine ⟨by simp only [fit]; exact fitAll_iff.mpr fun d hd => (h1 d hd).1, ?_, by simpa only [Pv.wt] using h2⟩
  simp only [PyData.depth]
  have : PyData.depthAll ds ≤ k - 1 := depthAll_le.mpr fun d hd => by have := (h1 d hd).2; omega
  omega
theorem Fit.lst {M k W : Nat} {ds : List PyData} (h1 : ∀ d ∈ ds, fit M d ∧ d.depth + 1 ≤ k) (h0 : 1 ≤ k) (h2 : wtAll ds + 3 ≤ W) : Fit M k W (.list ds) := by
  refine ⟨by simp only [fit]; exact fitAll_iff.mpr fun d hd => (h1 d hd).1, ?_, by simpa only [Pv.wt] using h2⟩
  simp only [PyData.depth]
  have : PyData.depthAll ds ≤ k - 1 := depthAll_le.mpr fun d hd => by have := (h1 d hd).2; omega
  omega
theorem Fit.parts {M k W : Nat} {ds : List PyData} (h : Fit M k W (.tuple ds)) : (∀ d ∈ ds, fit M d ∧ d.depth + 1 ≤ k) ∧ 1 ≤ k ∧ wtAll ds + 3 ≤ W := by
  have h0 : 1 ≤ k := by have := h.dp; simp only [PyData.depth] at this; omega
  refine ⟨fun d hd => ⟨(h.at hd).1.ok, ?_⟩, h0, by have := h.wt; simpa only [Pv.wt] using this⟩
  have := (h.at hd).1.dp
  omega
theorem Fit.int {M k W : Nat} {i : Int} (h : i.natAbs ≤ M) (hW : 40 ≤ W) : Fit M k W (.int i) := ⟨by simpa only [fit] using h, by simp [PyData.depth], by simpa only [Pv.wt] using hW⟩
/-- what is shown together -/
theorem fit_pair {M : Nat} (hM : M < 10 ^ 35) {k W : Nat} {a b : PyData} (ha : Fit M k W a) (hb : Fit M k W b) (hk : k ≤ 50) (hW : W ≤ 1000000) :
    (PyData.list [a, b]).showable = true ∧ (PyData.list [a, b]).depth ≤ 60 ∧ (PyData.list [a, b]).shown.length ≤ sizeLine := by
  have h : Fit M (k + 1) (2 * W + 10) (.list [a, b]) := by
    refine Fit.lst ?_ (by omega) ?_
    · intro d hd
      rcases List.mem_cons.mp hd with rfl | hd
      · exact ⟨ha.ok, by have := ha.dp; omega⟩
      · rcases List.mem_cons.mp hd with rfl | hd
        · exact ⟨hb.ok, by have := hb.dp; omega⟩
        · cases hd
    · have h1 := ha.wt
      have h2 := hb.wt
      simp only [wtAll]; omega
  obtain ⟨s1, s2⟩ := fit_ok hM h.ok
  refine ⟨s1, Nat.le_trans h.dp (by omega), Nat.le_trans s2 (Nat.le_trans h.wt ?_)⟩
  rw [sizeLine_eq]; omega
/-! the data of instances and assignments -/
theorem fit_dI {M : Nat} {ns : List Int} (h : ∀ i ∈ ns, i.natAbs ≤ M) : Fit M 1 (ns.length * 42 + 3) (dI ns) := by
  have hw : wtAll (ns.map PyData.int) = ns.length * 42 := by
    clear h
    induction ns with
    | nil => rfl
    | cons a ns ih => simp only [List.map_cons, wtAll, wt, ih, List.length_cons]; omega
  refine Fit.tup ?_ (by decide) (by rw [hw]; exact Nat.le_refl _)
  intro d hd
  obtain ⟨i, hi, rfl⟩ := List.mem_map.mp hd
  exact ⟨by simpa only [fit] using h i hi, by simp [PyData.depth]⟩
theorem wtAll_le {W : Nat} : ∀ {ds : List PyData}, (∀ d ∈ ds, wt d ≤ W) → wtAll ds ≤ ds.length * (W + 2)
  | [], _ => by simp [wtAll]
  | d :: ds, h => by
    have h1 := h d (by simp)
    have h2 := wtAll_le (W := W) (ds := ds) (fun x hx => h x (by simp [hx]))
    simp only [wtAll, List.length_cons, Nat.succ_mul]; omega
theorem fit_dAsg {M : Nat} {rows : List (List Int)} (h : ∀ row ∈ rows, row.length ≤ 10 ∧ ∀ i ∈ row, i.natAbs ≤ M) (hr : rows.length ≤ 20) : Fit M 2 10000 (dAsg rows) := by
  unfold dAsg
  refine Fit.tup ?_ (by decide) ?_
  · intro d hd
    obtain ⟨row, hrow, rfl⟩ := List.mem_map.mp hd
    have := fit_dI (M := M) (h row hrow).2
    exact ⟨this.ok, by have := this.dp; omega⟩
  · have := wtAll_le (W := 430) (ds := rows.map dI) (by
      intro d hd
      obtain ⟨row, hrow, rfl⟩ := List.mem_map.mp hd
      have := (fit_dI (M := M) (h row hrow).2).wt
      have := (h row hrow).1
      omega)
    rw [List.length_map] at this
    omega
theorem fit_dInst {M : Nat} {cs : List Int} {gs : List Gp} (hc : cs.length ≤ 10 ∧ ∀ i ∈ cs, i.natAbs ≤ M) (hg : gs.length ≤ 20) (h : ∀ g ∈ gs, g.1.length ≤ 10 ∧ (∀ i ∈ g.1, i.natAbs ≤ M) ∧ g.2.natAbs ≤ M) : Fit M 5 20000 (dInst cs gs) := by
  have f1 := fit_dI hc.2
  have f2 : ∀ g ∈ gs, Fit M 2 600 (dGrp g) := by
    intro g hgm
    have f3 := fit_dI (M := M) (h g hgm).2.1
    have hl := (h g hgm).1
    unfold dGrp
    refine Fit.tup ?_ (by decide) ?_
    · intro d hd
      rcases List.mem_cons.mp hd with rfl | hd
      · exact ⟨f3.ok, by have := f3.dp; omega⟩
      · rcases List.mem_cons.mp hd with rfl | hd
        · exact ⟨by simpa only [fit] using (h g hgm).2.2, by simp [PyData.depth]⟩
        · cases hd
    · have := f3.wt
      simp only [wtAll, Pv.wt]; omega
  have f4 : Fit M 3 13000 (.tuple (gs.map dGrp)) := by
    refine Fit.tup ?_ (by decide) ?_
    · intro d hd
      obtain ⟨g, hgm, rfl⟩ := List.mem_map.mp hd
      exact ⟨(f2 g hgm).ok, by have := (f2 g hgm).dp; omega⟩
    · have := wtAll_le (W := 600) (ds := gs.map dGrp) (by
        intro d hd
        obtain ⟨g, hgm, rfl⟩ := List.mem_map.mp hd
        exact (f2 g hgm).wt)
      rw [List.length_map] at this
      omega
  unfold dInst
  refine Fit.tup ?_ (by decide) ?_
  · intro d hd
    rcases List.mem_cons.mp hd with rfl | hd
    · exact ⟨f1.ok, by have := f1.dp; omega⟩
    · rcases List.mem_cons.mp hd with rfl | hd
      · exact ⟨f4.ok, by have := f4.dp; omega⟩
      · cases hd
  · have h1 := f1.wt
    have h2 := f4.wt
    have := hc.1
    simp only [wtAll]; omega
end Pv

namespace Pv
open PySem PySem.Spec PyProof.Rows L2
/-! errors of the program's own classes -/
abbrev VEbm : List Value := [.type "ValueError", .type "Exception", .type "BaseException", .type "object"]
theorem pmk_own0 {X : Cx} {C : Addr} {bmB : List Value} {B newId initId : String} {x : Str} {p pos : Pos} (F : ExcBaseFacts B newId initId bmB) (q : PySem.W.excIn X.K C bmB newId = true) (gC : X.mg x = some (.ref C))
    (kC : PySem.W.keepIn X.K (.ref C) = true) (r : Raises X (.ref C)) (hg : Gl X x) (hdb : (x == ("__debug__" : Str)) = false := by decide) :
    PMk X (.Call (.Name x p) [] [] pos) (fun _ H Q => Q (.ref C) none H) := by
  intro pins s σ H Q I h
  refine wpAny_Call_Name_kw (ld_glob I hg gC ?_ hdb)
  refine PySem.W.callWith_K0 I.kIn kC ?_
  obtain ⟨bm, N, nm, qn, bs, hdct, sn, sub, ab, col, dd, k0, k1, k2, k3, k5, mN, hC, hN, hni, T⟩ := exc_obj I.kIn q
  show wpAny _ _ (call (.ref C) []) _ _ _
  refine wpAny_call_exc_subT F T hC hN hni (fun h' e hm => ?_) (Nat.zero_le _)
  exact mk_of I hm r h (I.hok.gone hm.new)
/-- what is asked of a class whose errors isinstance is asked of -/
structure IsC (K : PySem.W.Frag) (D : Addr) : Prop where
  cl : (PySem.W.clsIn K D).isSome = true
  hg : PySem.W.findIn K (.ref D) "__getattribute__" = some (some (.builtin "BaseException.__getattribute__"))
  hk : PySem.W.findIn K (.ref D) "__getattr__" = some none
  hs : PySem.W.subIn K (.ref D) (.type "BaseException") = some true
  ty : PySem.W.typeIn K (.ref D) = some (.type "type")
  ha : PySem.W.findIn K (.ref D) "__class__" = some (some (.builtin "object.__class__"))
  hn : PySem.W.specialIn K (.builtin "object.__class__") "__get__" = some (some (.builtin "getset_descriptor.__get__"))
  ht : PySem.W.takesIn K (.builtin "object.__class__") = some true
  hm : PySem.W.mroIn K D (.type "object") = some true
  kp : PySem.W.keepIn K (.ref D) = true
def isCB (K : PySem.W.Frag) (D : Addr) : Bool :=
  (PySem.W.clsIn K D).isSome && (decide (PySem.W.findIn K (.ref D) "__getattribute__" = some (some (.builtin "BaseException.__getattribute__"))) && (decide (PySem.W.findIn K (.ref D) "__getattr__" = some none) &&
  (decide (PySem.W.subIn K (.ref D) (.type "BaseException") = some true) && (decide (PySem.W.typeIn K (.ref D) = some (.type "type")) && (decide (PySem.W.findIn K (.ref D) "__class__" = some (some (.builtin "object.__class__"))) &&
  (decide (PySem.W.specialIn K (.builtin "object.__class__") "__get__" = some (some (.builtin "getset_descriptor.__get__"))) && (decide (PySem.W.takesIn K (.builtin "object.__class__") = some true) &&
  (decide (PySem.W.mroIn K D (.type "object") = some true) && PySem.W.keepIn K (.ref D)))))))))
theorem isCB_ok {K : PySem.W.Frag} {D : Addr} (h : isCB K D = true) : IsC K D := by
  simp only [isCB, Bool.and_eq_true, decide_eq_true_eq] at h
  obtain ⟨h1, h2, h3, h4, h5, h6, h7, h8, h9, h10⟩ := h
  exact ⟨h1, h2, h3, h4, h5, h6, h7, h8, h9, h10⟩
theorem IsC.raises {X : Cx} {D : Addr} (c : IsC X.K D) : Raises X (.ref D) := raises_own c.hs c.ty
/-- isinstance(e, c), e the error that the suite holds, c a class or a tuple of classes -/
def rIsX (K : PySem.W.Frag) (a : Addr) (cls : Value) (d : Option Addr) : RC := fun xs H Q => ∃ (D : Addr) (c : V) (b : Bool), cls = .ref D ∧ IsC K D ∧ (∀ dx, d = some dx → ∃ fs, H dx = some (.xd fs)) ∧ xs = [.ref a, c] ∧
  ((∃ u, ClsV c u ∧ PySem.W.kitOne K (.ref D) u = some b) ∨ ∃ (tp : Addr) (cs : List V) (us : List Value), c = .ref tp ∧ H tp = some (.tup cs) ∧ Paired ClsV cs us ∧ PySem.W.kitAny K (.ref D) us = some b) ∧ Q (.bl b) H
theorem call_isX {X : Cx} {a : Addr} {oe : Obj} {cls : Value} {d : Option Addr} {pn : List (Addr × Obj)} (hz : Zc cls d oe) (hf : ∃ vs, oe.data = .fields vs) : CallR (X.suite a ((a, oe) :: pn)) (.builtin "isinstance") (rIsX X.K a cls d) := by
  intro pins s σ H xs us Q I r h
  obtain ⟨D, c, b, rfl, C, hdx, rfl, hc, q⟩ := h
  obtain ⟨u1, u2, rfl, r1, r2⟩ := vals2 r
  cases (show u1 = Value.ref a from r1)
  obtain ⟨hget, _⟩ := I.pin (a, oe) (List.mem_append.mpr (.inl List.mem_cons_self))
  obtain ⟨vs, hv⟩ := hf
  have J : ∃ od, PySem.W.InstAt s.heap a oe D od := by
    cases d with
    | none =>
      refine ⟨none, hget, hz.1, by unfold PySem.W.notCls; rw [hv] <;> rfl, ?_⟩
      rw [hz.2]; trivial
    | some dx =>
      obtain ⟨fs, e⟩ := hdx dx rfl
      have hx : ObjOk X.prog X.w H s.heap dx (.xd fs) := I.hok dx _ e
      obtain ⟨mA, hns, _⟩ := hx
      obtain ⟨od, ho, _⟩ := lookIn_ns hns
      exact ⟨some od, hget, hz.1, by unfold PySem.W.notCls; rw [hv] <;> rfl, by rw [hz.2]; exact ho⟩
  obtain ⟨od, J⟩ := J
  have Z := PySem.W.kitx_exc (K := X.K) (x := a) (C := D) (ox := oe) (od := od) C.cl C.hg C.hk C.hs C.ha C.hn C.ht C.hm
  rcases hc with ⟨u, ku, e⟩ | ⟨tp, cs, ws, rfl, hT, ks, e⟩
  · have e2 := ku.eq r2
    subst e2
    exact PySem.W.kia_one Z I.kIn J e (fun z => nomatch z) fun tk => ⟨.bl b, H, I.kept (t' := tk) fun _ _ z => z, rfl, q⟩
  · cases (show u2 = Value.ref tp from r2)
    obtain ⟨_, its, rv, o, h1, h2, n, h3⟩ := (show ObjOk X.prog X.w H s.heap tp (.tup cs) from I.hok tp _ hT)
    have e3 := ClsV.all ks rv
    subst e3
    obtain ⟨oc, od', dt, sl⟩ := o
    simp only at h2 h3
    subst h2 h3
    exact PySem.W.kia_tup Z I.kIn J h1 e (fun z => nomatch z) fun tk => ⟨.bl b, H, I.kept (t' := tk) fun _ _ z => z, rfl, q⟩
end Pv

namespace Pv
open PySem PySem.Spec PyProof.Rows L2
/-! an error with one field of its own -/
def inCls (st : Stmt) (i : Nat) : Stmt := match st with
  | .ClassDef _ _ _ body _ _ _ _ _ _ _ => body.getD i (.Pass ⟨0, 0, 0, 0⟩)
  | _ => .Pass ⟨0, 0, 0, 0⟩
def spI1 (C : Addr) (fld : Str) : Sp := fun vs H Q _ => ∃ (a : Addr) (v : V), vs = [.ref a, v] ∧ H a = some (exo a C none) ∧ ∀ dx, H dx = none → dx ≠ a → Q .non (upd (upd H dx (exd dx [(fld, v)])) a (exo a C (some dx)))
theorem mkO1 {C : Addr} {fld : Str} {v : V} {H1 : Hp} {Q : XK} (h : ∀ d, H1 d = none → Q (.ref C) (some d) (upd H1 d (.xd [(fld, v)]))) :
    [v].length ≤ 1000 ∧ ∀ a, H1 a = none → spI1 C fld (.ref a :: ([v] ++ [])) (upd H1 a (exo a C none))
      (fun v' H2 => v' = .non ∧ ∃ (d : Addr) (fs : List (Str × V)), H2 a = some (exo a C (some d)) ∧ H2 d = some (exd d fs) ∧ H1 d = none ∧ Q (.ref C) (some d) (upd (del H2 a) d (.xd fs))) (fun _ _ _ => False) := by
  refine ⟨by simp, fun a na => ⟨a, v, rfl, upd_same, fun dx nd ne => ⟨rfl, dx, [(fld, v)], upd_same, ?_, ?_, ?_⟩⟩⟩
  · rw [upd_ne ne]; exact upd_same
  · rw [upd_ne ne] at nd; exact nd
  · have nd1 : H1 dx = none := by rw [upd_ne ne] at nd; exact nd
    have e : upd (del (upd (upd (upd H1 a (exo a C none)) dx (exd dx [(fld, v)])) a (exo a C (some dx))) a) dx (.xd [(fld, v)]) = upd H1 dx (.xd [(fld, v)]) := by
      funext b
      by_cases hb : b = dx
      · rw [hb, upd_same, upd_same]
      · rw [upd_ne hb, upd_ne hb]
        by_cases ha : b = a
        · rw [ha, del_same, na]
        · rw [del_ne ha, upd_ne ha, upd_ne hb, upd_ne ha]
    rw [e]
    exact h dx nd1
/-- what the written part says of such a class -/
structure XF (K : PySem.W.Frag) (C fI : Addr) (fld : Str) : Prop where
  T : OexC K C
  iC : PySem.W.findIn K (.ref C) "__init__" = some (some (.ref fI))
  tI : PySem.W.typeIn K (.ref fI) = some (.type "function")
  no : PySem.W.findIn K (.ref C) fld = some none
  rd : XfC K C
def xf1B (K : PySem.W.Frag) (C fI : Addr) (fld : Str) : Bool :=
  decide (PySem.W.findIn K (.ref C) "__setattr__" = some (some (.builtin "object.__setattr__"))) && (decide (PySem.W.subIn K (.ref C) (.type "BaseException") = some true) && (decide (PySem.W.typeIn K (.ref C) = some (.type "type")) && (PySem.W.keepIn K (.ref C) &&
  (decide (PySem.W.findIn K (.ref C) "__init__" = some (some (.ref fI))) && (decide (PySem.W.typeIn K (.ref fI) = some (.type "function")) && (decide (PySem.W.findIn K (.ref C) fld = some none) && xfB K C))))))
theorem xf1B_ok {K : PySem.W.Frag} {C fI : Addr} {fld : Str} (h : xf1B K C fI fld = true) (c : ∃ nm q N bs bm sn sub ab col dd k0 k1 k2 k3 k5, K.lookup C = some (excClassObj nm q C N bs bm true sn sub ab col dd k0 k1 k2 k3 k5 "ValueError.__new__") ∧ PySem.HandSPX.refsVE bm = true) : XF K C fI fld := by
  simp only [xf1B, Bool.and_eq_true, decide_eq_true_eq] at h
  obtain ⟨h1, h2, h3, h4, h5, h6, h7, h8⟩ := h
  exact ⟨⟨c, h1, h2, h3, h4⟩, h5, h6, h7, xfB_ok h8⟩
end Pv

namespace Pv
open PySem PySem.Spec PyProof.Rows L2
/-! calls with keywords, where an error may come out -/
def tCallNS (n m : Nat) (sp : Sp) (gV : List V → List V → List V) (E : L2.St → XK) (t tk : TA) : TE := fun σ H Q => t σ H fun vs H1 => tk σ H1 fun zs H2 => vs.length = n ∧ zs.length = m ∧ sp (gV vs zs) H2 Q (E σ)
section
variable {X : Cx} {CX : CXT} {k n : Nat} {f : Addr} {fd : FuncData} {ps ks : List Str} {sp : Sp} {E : L2.St → XK} {x : Str} {p pos : Pos} {e : Expr} {es : List Expr} {kws : List Keyword} {t tk : TA} {g : List Value → List Value → List Value} {gV : List V → List V → List V}
theorem pe_callNS (F : FnOk X.prog X.w X.K X.mg X.base CX k f fd ps sp) (hr : Room k X.A) (hg : Gl X x) (hm : X.mg x = some (.ref f)) (hk : PySem.W.keepIn X.K (.ref f) = true) (hb : KBn X.K fd ps n ks g gV) (hx : ∀ σ, PassesAt CX X σ (E σ))
    (ha : PA X (e :: es) t) (hkw : PK X kws tk) (hall : (backToKw pos (keywordEach kws X.env)).all (·.1.isSome) = true := by rfl) (hks : (backToKw pos (keywordEach kws X.env)).filterMap (·.1) = ks := by rfl)
    (hdb : (x == ("__debug__" : Str)) = false := by decide) (he : starEach (e :: es) X.env = (false, eval e X.env) :: starEach es X.env := by rfl)
    (hpl : ((backTo pos (starEach (e :: es) X.env)).any (·.1) || (backToKw pos (keywordEach kws X.env)).any (·.1.isNone)) = false := by rfl) :
    PE X (.Call (.Name x p) (e :: es) kws pos) (tCallNS n ks.length sp gV E t tk) := by
  refine ⟨fun pins s σ H Q I h => ?_⟩
  refine wpAny_Call_Name_kw (ld_glob I hg hm ?_ hdb)
  refine PySem.W.callWith_KW (h₀ := X.base) I.ok.mod.kin hk hall (thn (ha.run pos pins s σ H _ I h) fun us s1 ⟨vs, H1, I1, r, q⟩ => ?_) hpl he
  refine thn (hkw.run pos pins s1 σ H1 _ I1 q) fun ws s2 ⟨zs, H2, I2, rz, l1, l2, q2⟩ => ⟨I2.kIn, ?_⟩
  rw [hks]
  have r2 := hb.rel r rz
  show wpAny _ _ (call (.ref f) us (ks.zip ws)) _ _ _
  refine wpAny_call (codeAny_mono (F.run X.A X.stack s2 H2 ⟨us, ks.zip ws⟩ (g us ws) (gV vs zs) Q (E σ) hr I2.env0 (hb.to s2 us ws I2.kIn (r.length.symm.trans l1) (rz.length.symm.trans l2)) r2 q2) fun r s' hq => ?_)
  cases r with
  | error e => exact hx σ pins H2 s2 e s' I2 hq
  | ok fl =>
    cases fl with
    | ret u => exact I2.after hq
    | next => exact False.elim hq
    | brk => exact False.elim hq
    | cont => exact False.elim hq
end
/-- one value, one keyword-only value -/
theorem kb_one {K : PySem.W.Frag} {x qual : Str} {st : Stmt} {f : Addr} {fd : FuncData} {a b : Str} (F : Fun K x qual st f fd)
    (h : ∀ (kV dc pm : Value) (an : Option Addr) (cd ct u v : Value), bindArgs (PySem.W.fnOf x qual (defArgs st) (defBody st) (defScope st) .none kV dc pm an cd ct) ⟨[u], [(b, v)]⟩ = pure [(a, u), (b, v)]) : KBn K fd [a, b] 1 [b] (fun us ws => us ++ ws) (fun vs zs => vs ++ zs) := by
  obtain ⟨oc, od, kV, doc, pm, an, cdv, ct, osl, rfl, lk, hcd⟩ := F.ex
  refine ⟨fun s us ws _ l1 l2 => ?_, fun r1 r2 => r1.append r2⟩
  match us, ws, l1, l2 with
  | [u], [v], _, _ => exact .of_eq (h kV doc pm an cdv ct u v)
end Pv

namespace Pv
open PySem PySem.Spec PyProof.Rows L2
theorem seq_with {t u : TS} {D : Ends} {σ : L2.St} {H : Hp} (Pre : L2.St → Hp → Prop) (rest : ∀ σ1 H1, Pre σ1 H1 → u D σ1 H1) (main : (∀ σ1 H1, Pre σ1 H1 → u D σ1 H1) → tSeq t u D σ H) : tSeq t u D σ H := main rest
theorem perm_erase : ∀ (l : List Int) (k : Nat) (h : k < l.length), (l[k] :: l.eraseIdx k).Perm l
  | [], _, h => by simp at h
  | a :: l, 0, _ => by simp
  | a :: l, k + 1, h => by
    have ih := perm_erase l k (by simpa using h)
    simp only [List.getElem_cons_succ, List.eraseIdx_cons_succ]
    exact (List.Perm.swap _ _ _).trans (List.Perm.cons _ ih)
theorem nodup_step {ms l : List Int} {k : Nat} (h : k < l.length) (hn : (ms ++ l).Nodup) : ((ms ++ [l[k]]) ++ l.eraseIdx k).Nodup := by
  rw [List.append_assoc]
  exact (List.Perm.append_left ms (perm_erase l k h)).symm.nodup hn
theorem upTo_nodup (n : Nat) : (upTo n).Nodup := by
  unfold upTo
  show List.Pairwise _ _
  rw [List.pairwise_map]
  exact List.Pairwise.imp (fun h hab => h (Int.ofNat.inj hab)) (List.nodup_range (n := n))
def wholeD (d : PyData) : Bool := isInt d && !isBool d
def withinD (a b : Int) : PyData → Bool
  | .int i => decide (a ≤ i ∧ i ≤ b)
  | _ => false
def tupOfD (a b : Int) : PyData → Bool
  | .tuple ds => decide (a ≤ (ds.length : Int) ∧ (ds.length : Int) ≤ b)
  | _ => false
def intsAll : List PyData → Option (List Int)
  | [] => some []
  | .int i :: r => (intsAll r).map (i :: ·)
  | _ :: _ => none
def intsOf : PyData → Option (List Int)
  | .tuple ds => intsAll ds
  | _ => none
theorem intsAll_ints : ∀ row : List Int, intsAll (row.map PyData.int) = some row
  | [] => rfl
  | i :: r => by simp [intsAll, intsAll_ints r]
theorem intsAll_eq : ∀ {ds : List PyData} {row : List Int}, intsAll ds = some row → ds = row.map PyData.int
  | [], row, h => by simp [intsAll] at h; subst h; rfl
  | d :: ds, row, h => by
    cases d <;> simp [intsAll] at h
    obtain ⟨r, h1, rfl⟩ := h
    rw [intsAll_eq h1]; rfl
theorem within_ints : ∀ {ds : List PyData} {a b : Int}, ds.all (withinD a b) = true → ∃ row : List Int, ds = row.map PyData.int ∧ row.all (fun x => decide (a ≤ x ∧ x ≤ b)) = true
  | [], _, _, _ => ⟨[], rfl, rfl⟩
  | d :: ds, a, b, h => by
    rw [List.all_cons, Bool.and_eq_true] at h
    obtain ⟨row, e, h2⟩ := within_ints h.2
    cases d with
    | int i => exact ⟨i :: row, by rw [e]; rfl, by rw [List.all_cons, Bool.and_eq_true]; exact ⟨h.1, h2⟩⟩
    | _ => simp [withinD] at h
def optV (ps : List Int) (k : Nat) : V := match ps[k]? with | some p => .int p | none => .non
def dAdd (ls : List Int) (g : Gp) : List Int := match g.1 with | [] => ls | p :: _ => addAt ls p g.2
def demOf (n : Nat) (gs : List Gp) : List Int := gs.foldl dAdd (zeros n)
theorem dAdd_len (ls : List Int) (g : Gp) : (dAdd ls g).length = ls.length := by
  unfold dAdd; split
  · rfl
  · exact addAt_len ..
theorem demOf_len (n : Nat) (gs : List Gp) : (demOf n gs).length = n := by
  unfold demOf
  suffices h : ∀ ls : List Int, (gs.foldl dAdd ls).length = ls.length by rw [h]; simp [zeros]
  intro ls
  induction gs generalizing ls with
  | nil => rfl
  | cons g gs ih => rw [List.foldl_cons, ih, dAdd_len]
theorem demOf_snoc {n : Nat} {gs : List Gp} {i : Nat} {g : Gp} (h : gs[i]? = some g) : demOf n (gs.take (i + 1)) = dAdd (demOf n (gs.take i)) g := by
  unfold demOf
  rw [take_snoc h, List.foldl_append]; rfl
def mx (j : Int) : Int := if j > 0 then j else 0
def excOf (cs ds : List Int) : List Int := (cs.zip ds).map fun q => mx (q.2 - q.1)
def freOf (cs ds : List Int) : List Int := (cs.zip ds).map fun q => mx (q.1 - q.2)
def sel (f : Int → Bool) (ls : List Int) (n : Nat) : List Int := ((List.range n).filter fun i => f (ls.getD i 0)).map fun (i : Nat) => (i : Int)
theorem sel_succ (f : Int → Bool) (ls : List Int) {n : Nat} {x : Int} (h : ls[n]? = some x) : sel f ls (n + 1) = sel f ls n ++ (if f x then [(n : Int)] else []) := by
  unfold sel
  rw [List.range_succ, List.filter_append, List.map_append]
  have e : ls.getD n 0 = x := by rw [List.getD_eq_getElem?_getD, h]; rfl
  simp only [List.filter_cons, List.filter_nil, e]
  cases f x <;> rfl
theorem sel_len (f : Int → Bool) (ls : List Int) (n : Nat) : (sel f ls n).length ≤ n := by
  unfold sel
  rw [List.length_map]
  exact Nat.le_trans (List.length_filter_le ..) (by simp)
def isFree (ps cl : List Int) (k : Nat) : Bool := !(cl.contains (ps.getD k 0))
def resOf (ps cl : List Int) : Nat := ((List.range' 1 (ps.length - 1)).find? (isFree ps cl)).getD ps.length
theorem inV_ints (x : Int) : ∀ cl : List Int, inV (.int x) (cl.map V.int) = cl.contains x
  | [] => rfl
  | c :: cl => by
    show ((c == x) || inV (.int x) (cl.map V.int)) = _
    rw [inV_ints x cl, List.contains_cons]
    congr 1
    exact Bool.beq_comm
theorem flat_ints (cl : List Int) : (cl.map V.int).all flatV = true := by
  induction cl with
  | nil => rfl
  | cons c cl ih => simpa [flatV] using ih
def rDem (cs : List Int) (gs : List Gp) : List Int := demOf cs.length gs
def rExc (cs : List Int) (gs : List Gp) : List Int := excOf cs (rDem cs gs)
def rFre (cs : List Int) (gs : List Gp) : List Int := freOf cs (rDem cs gs)
def rCla (cs : List Int) (gs : List Gp) : List Int := sel (fun x => decide (x = 0)) (rFre cs gs) cs.length
def rCro (cs : List Int) (gs : List Gp) : List Int := sel (fun x => decide (0 < x)) (rExc cs gs) cs.length
theorem rDem_len (cs : List Int) (gs : List Gp) : (rDem cs gs).length = cs.length := demOf_len ..
theorem rExc_len (cs : List Int) (gs : List Gp) : (rExc cs gs).length = cs.length := by simp [rExc, excOf, rDem_len]
theorem rFre_len (cs : List Int) (gs : List Gp) : (rFre cs gs).length = cs.length := by simp [rFre, freOf, rDem_len]
def oV : Option Int → V
  | some x => .int x
  | none => .non
theorem optV_oV (ps : List Int) (k : Nat) : optV ps k = oV ps[k]? := by unfold optV; cases ps[k]? <;> rfl
def routeOf (cs : List Int) (gs : List Gp) (g : Gp) : Option (Int × Option Int) := match g.1 with
  | [] => none
  | p :: _ => if (rCro cs gs).contains p = true then some (p, g.1[resOf g.1 (rCla cs gs)]?) else none
def RtV (K : PySem.W.Frag) (H : Hp) (v : V) : Option (Int × Option Int) → Prop
  | none => v = .non
  | some r => ∃ T, v = .ref T ∧ SqT K H T [.int r.1, oV r.2]
def RtAll (K : PySem.W.Frag) (H : Hp) (vs : List V) (rs : List (Option (Int × Option Int))) : Prop := vs.length = rs.length ∧ ∀ (j : Nat) (v : V) (r : Option (Int × Option Int)), vs[j]? = some v → rs[j]? = some r → RtV K H v r
theorem RtV.tk {K : PySem.W.Frag} {H H' : Hp} {v : V} {r : Option (Int × Option Int)} (h : RtV K H v r) (s : TupK H H') : RtV K H' v r := by
  cases r with
  | none => exact h
  | some r => obtain ⟨T, e, h⟩ := h; exact ⟨T, e, s.sq h⟩
theorem RtAll.tk {K : PySem.W.Frag} {H H' : Hp} {vs : List V} {rs : List (Option (Int × Option Int))} (h : RtAll K H vs rs) (s : TupK H H') : RtAll K H' vs rs := ⟨h.1, fun j v r h1 h2 => (h.2 j v r h1 h2).tk s⟩
theorem RtAll.snoc {K : PySem.W.Frag} {H : Hp} {vs : List V} {rs : List (Option (Int × Option Int))} {v : V} {r : Option (Int × Option Int)} (h : RtAll K H vs rs) (hv : RtV K H v r) : RtAll K H (vs ++ [v]) (rs ++ [r]) := by
  refine ⟨by simp [h.1], fun j v' r' h1 h2 => ?_⟩
  by_cases hj : j < vs.length
  · rw [List.getElem?_append_left hj] at h1
    rw [List.getElem?_append_left (by rw [← h.1]; exact hj)] at h2
    exact h.2 j v' r' h1 h2
  · rw [List.getElem?_append_right (by omega)] at h1
    rw [List.getElem?_append_right (by rw [← h.1]; omega)] at h2
    have e : j - vs.length = 0 := by have := (List.getElem?_eq_some_iff.mp h1).1; simp at this; omega
    rw [e] at h1
    rw [← h.1, e] at h2
    simp at h1 h2
    rw [← h1, ← h2]; exact hv
theorem inV_opt (ps cl : List Int) : inV (optV ps 0) (cl.map V.int) = match ps with | [] => false | p :: _ => cl.contains p := by
  cases ps with
  | nil =>
    show inV .non (cl.map V.int) = false
    induction cl with
    | nil => rfl
    | cons c cl ih =>
      have e : eqV (V.int c) V.non = false := rfl
      simp only [List.map_cons, inV] at ih ⊢
      simp [e] at ih ⊢
      exact ih
  | cons p ps => exact inV_ints p cl
theorem resOf_le (ps cl : List Int) : resOf ps cl ≤ ps.length := by
  unfold resOf
  cases e : (List.range' 1 (ps.length - 1)).find? (isFree ps cl) with
  | none => simp
  | some x =>
    have := List.mem_of_find?_eq_some e
    rw [List.mem_range'_1] at this
    simp; omega
theorem iteFF {c : Bool} {A B : Prop} (hc : c = false) (h : B) : if c = true then A else B := by rw [if_neg (by rw [hc]; decide)]; exact h
theorem iteTT {c : Bool} {A B : Prop} (hc : c = true) (h : A) : if c = true then A else B := by rw [if_pos hc]; exact h
theorem eqv_intsL (as bs : List Int) : PyData.eqv (.list (as.map PyData.int)) (.list (bs.map PyData.int)) = decide (as = bs) := by
  have key : ∀ (as bs : List Int), PyData.eqvAll (as.map PyData.int) (bs.map PyData.int) = decide (as = bs) := by
    intro as
    induction as with
    | nil => intro bs; cases bs <;> simp [PyData.eqvAll]
    | cons a as ih =>
      intro bs
      cases bs with
      | nil => simp [PyData.eqvAll]
      | cons b bs =>
        simp only [List.map_cons, PyData.eqvAll, PyData.eqv, ih, List.cons.injEq]
        by_cases h1 : a = b <;> by_cases h2 : as = bs <;> simp [h1, h2]
  rw [PyData.eqv]; exact key as bs
def mvStep (st : List Int × List Int) (z : Option (Int × Option Int) × Int) : List Int × List Int := match z.1 with
  | none => st
  | some r => (addAt st.1 r.1 z.2, match r.2 with | some y => addAt st.2 y z.2 | none => st.2)
def mvOf (n : Nat) (zs : List (Option (Int × Option Int) × Int)) : List Int × List Int := zs.foldl mvStep (zeros n, zeros n)
theorem mvOf_snoc (n : Nat) (zs : List (Option (Int × Option Int) × Int)) (z : Option (Int × Option Int) × Int) : mvOf n (zs ++ [z]) = mvStep (mvOf n zs) z := by simp [mvOf, List.foldl_append]
theorem mvOf_len (n : Nat) (zs : List (Option (Int × Option Int) × Int)) : (mvOf n zs).1.length = n ∧ (mvOf n zs).2.length = n := by
  have : ∀ (zs : List (Option (Int × Option Int) × Int)) (s : List Int × List Int), s.1.length = n → s.2.length = n → (zs.foldl mvStep s).1.length = n ∧ (zs.foldl mvStep s).2.length = n := by
    intro zs
    induction zs with
    | nil => intro s h1 h2; exact ⟨h1, h2⟩
    | cons z zs ih =>
      intro s h1 h2
      refine ih _ ?_ ?_
      · unfold mvStep; split
        · exact h1
        · simp only [addAt_len]; exact h1
      · unfold mvStep; split
        · exact h2
        · simp only; split
          · rw [addAt_len]; exact h2
          · exact h2
  exact this zs _ (by simp [zeros]) (by simp [zeros])
def zsOf (cs : List Int) (gs : List Gp) (xs : List Int) : List (Option (Int × Option Int) × Int) := (gs.map (routeOf cs gs)).zip xs
def goodZ (z : Option (Int × Option Int) × Int) : Bool := z.1.isSome || decide (z.2 = 0)
def meetsD (cs : List Int) (gs : List Gp) (xs : List Int) : Bool := (zsOf cs gs xs).all goodZ && decide ((mvOf cs.length (zsOf cs gs xs)).1 = rExc cs gs) && ((mvOf cs.length (zsOf cs gs xs)).2.zip (rFre cs gs)).all (fun z => decide (z.1 ≤ z.2))
theorem route_in {cs : List Int} {gs : List Gp} (ok : InsOk cs gs) {g : Gp} (hg : g ∈ gs) {r : Int × Option Int} (h : routeOf cs gs g = some r) : (0 ≤ r.1 ∧ r.1 < (cs.length : Int)) ∧ ∀ y, r.2 = some y → 0 ≤ y ∧ y < (cs.length : Int) := by
  have hp := (ok.gp g hg).2.1
  unfold routeOf at h
  cases e : g.1 with
  | nil => rw [e] at h; cases h
  | cons p ps =>
    rw [e] at h
    simp only at h
    split at h
    · cases h
      refine ⟨hp p (by rw [e]; simp), fun y hy => hp y ?_⟩
      rw [e]
      exact List.mem_of_getElem? hy
    · cases h
def intAt : PyData → Int
  | .int i => i
  | _ => 0
def tupIt : PyData → List PyData
  | .tuple ds => ds
  | _ => []
def isVecD (cs : List Int) (gs : List Gp) (d : PyData) : Bool := tupOfD (gs.length : Nat) (gs.length : Nat) d && ((gs.zip (tupIt d)).all (fun z => withinD 0 z.1.2 z.2) && meetsD cs gs ((tupIt d).map intAt))
theorem ints_vals {K : PySem.W.Frag} {st r : Addr} {H : Hp} : ∀ {ds : List PyData} {zs : List V}, (∀ d ∈ ds, ∃ x, d = PyData.int x) → DqAll K st r H zs ds → zs = (ds.map intAt).map V.int
  | [], _, _, h => by cases h; rfl
  | d :: ds, _, hi, h => by
    cases h with
    | cons h1 h2 =>
      obtain ⟨x, rfl⟩ := hi d (by simp)
      cases h1
      rw [ints_vals (fun d hd => hi d (by simp [hd])) h2]
      rfl
theorem sel_has (f : Int → Bool) (ls : List Int) {n k : Nat} (hk : k < n) : (sel f ls n).contains (k : Int) = f (ls.getD k 0) := by
  rw [Bool.eq_iff_iff, List.contains_iff_mem]
  simp only [sel, List.mem_map, List.mem_filter, List.mem_range]
  constructor
  · rintro ⟨a, ⟨h, e⟩, h2⟩
    have : a = k := by omega
    subst this; exact e
  · exact fun h => ⟨k, ⟨hk, h⟩, rfl⟩
theorem fre_at {cs ds : List Int} {p : Nat} (h1 : p < cs.length) (h2 : p < ds.length) : (freOf cs ds).getD p 0 = mx (cs[p] - ds[p]) := by
  unfold freOf
  rw [List.getD_eq_getElem?_getD, List.getElem?_map, (List.getElem?_zip_eq_some.mpr ⟨List.getElem?_eq_getElem h1, List.getElem?_eq_getElem h2⟩ : (cs.zip ds)[p]? = some (cs[p], ds[p]))]
  rfl
theorem exc_at {cs ds : List Int} {p : Nat} (h1 : p < cs.length) (h2 : p < ds.length) : (excOf cs ds).getD p 0 = mx (ds[p] - cs[p]) := by
  unfold excOf
  rw [List.getD_eq_getElem?_getD, List.getElem?_map, (List.getElem?_zip_eq_some.mpr ⟨List.getElem?_eq_getElem h1, List.getElem?_eq_getElem h2⟩ : (cs.zip ds)[p]? = some (cs[p], ds[p]))]
  rfl
theorem cla_has {cs : List Int} {gs : List Gp} {p : Nat} (h : p < cs.length) : (rCla cs gs).contains (p : Int) = decide (cs[p] ≤ (rDem cs gs)[p]'(by rw [rDem_len]; exact h)) := by
  unfold rCla
  rw [sel_has _ _ h]
  unfold rFre
  rw [fre_at h (by rw [rDem_len]; exact h)]
  unfold mx
  rw [decide_eq_decide]
  split <;> omega
theorem cro_has {cs : List Int} {gs : List Gp} {p : Nat} (h : p < cs.length) : (rCro cs gs).contains (p : Int) = decide (cs[p] < (rDem cs gs)[p]'(by rw [rDem_len]; exact h)) := by
  unfold rCro
  rw [sel_has _ _ h]
  unfold rExc
  rw [exc_at h (by rw [rDem_len]; exact h)]
  unfold mx
  rw [decide_eq_decide]
  split <;> omega
theorem zip_turn {α β γ : Type} (f : α × β → γ) : ∀ (as : List α) (bs : List β), (as.zip bs).map f = (bs.zip as).map fun z => f (z.2, z.1)
  | [], bs => by simp
  | a :: as, [] => by simp
  | a :: as, b :: bs => by simp [zip_turn f as bs]
theorem exc_zip (ds cs : List Int) : (ds.zip cs).map (fun z => V.int (mx (z.1 - z.2))) = (excOf cs ds).map V.int := by
  rw [zip_turn]; unfold excOf; rw [List.map_map]; rfl
theorem fre_zip (ds cs : List Int) : (ds.zip cs).map (fun z => V.int (mx (z.2 - z.1))) = (freOf cs ds).map V.int := by
  rw [zip_turn]; unfold freOf; rw [List.map_map]; rfl
theorem res_head {ps cl : List Int} {F : Nat → Option V} (hl : 1 ≤ ps.length) (hF : ∀ k, 1 ≤ k → k < ps.length → F k = if isFree ps cl k = true then some (.int (k : Nat)) else none) (hL : F ps.length = some (.int (ps.length : Nat))) :
    ((List.range' 1 ps.length).filterMap F)[0]? = some (.int (resOf ps cl : Nat)) := by
  obtain ⟨m, hm⟩ : ∃ m, ps.length = m + 1 := ⟨ps.length - 1, by omega⟩
  have e : List.range' 1 ps.length = List.range' 1 m ++ [ps.length] := by rw [hm, List.range'_1_concat, Nat.add_comm 1 m]
  have key : ∀ l : List Nat, (∀ k ∈ l, 1 ≤ k ∧ k < ps.length) → (l.filterMap F ++ [V.int (ps.length : Nat)])[0]? = some (.int (((l.find? (isFree ps cl)).getD ps.length : Nat) : Int)) := by
    intro l
    induction l with
    | nil => intro _; rfl
    | cons k l ih =>
      intro h
      have hk := h k (by simp)
      have := hF k hk.1 hk.2
      by_cases hf : isFree ps cl k = true
      · rw [if_pos hf] at this
        rw [List.filterMap_cons_some this, List.find?_cons_of_pos hf]; rfl
      · rw [if_neg hf] at this
        rw [List.filterMap_cons_none this, List.find?_cons_of_neg hf]
        exact ih fun k hk => h k (by simp [hk])
  rw [e, List.filterMap_append, show List.filterMap F [ps.length] = [V.int (ps.length : Nat)] by simp [hL], key _ (fun k hk => by rw [List.mem_range'_1] at hk; omega)]
  unfold resOf
  rw [hm, Nat.add_sub_cancel]
abbrev Rw := Nat × Int × Option Int × Int
def rowAt (cs : List Int) (gs : List Gp) (j : Nat) (g : Gp) : Option Rw := (routeOf cs gs g).map fun r => (j, r.1, r.2, g.2)
def rowsTo (cs : List Int) (gs : List Gp) (n : Nat) : List Rw := (List.range n).filterMap fun j => gs[j]?.bind (rowAt cs gs j)
theorem rowsTo_succ {cs : List Int} {gs : List Gp} {j : Nat} {g : Gp} (h : gs[j]? = some g) : rowsTo cs gs (j + 1) = rowsTo cs gs j ++ (rowAt cs gs j g).toList := by
  unfold rowsTo
  rw [List.range_succ, List.filterMap_append]
  congr 1
  simp only [List.filterMap_cons, List.filterMap_nil, h, Option.bind_some]
  cases rowAt cs gs j g <;> rfl
theorem rowsTo_len (cs : List Int) (gs : List Gp) (n : Nat) : (rowsTo cs gs n).length ≤ n := by
  unfold rowsTo
  exact Nat.le_trans (List.length_filterMap_le _ _) (by simp)
def RwV (K : PySem.W.Frag) (H : Hp) (v : V) (r : Rw) : Prop := ∃ T, v = .ref T ∧ SqT K H T [.int (r.1 : Nat), .int r.2.1, oV r.2.2.1, .int r.2.2.2]
theorem RwV.tk {K : PySem.W.Frag} {H H' : Hp} {v : V} {r : Rw} (h : RwV K H v r) (s : TupK H H') : RwV K H' v r := by
  obtain ⟨T, e, h⟩ := h; exact ⟨T, e, s.sq h⟩
theorem RwV.same {K : PySem.W.Frag} {H H' : Hp} {v : V} {r : Rw} (h : RwV K H v r) (s : Same H H') : RwV K H' v r := h.tk (.of s)
def subL (a b : List Int) : List Int := List.zipWith (fun x y => x - y) a b
theorem subL_len {a b : List Int} (h : a.length = b.length) : (subL a b).length = a.length := by simp [subL, h]
theorem sub_add {a b : List Int} {p : Nat} {x : Int} (hab : a.length = b.length) (hp : p < (subL a b).length) : subL a (addAt b (p : Int) x) = (subL a b).set p ((subL a b)[p] - x) := by
  have hpb : p < b.length := by rw [subL_len hab] at hp; omega
  unfold addAt
  rw [Int.toNat_natCast]
  apply List.ext_getElem
  · simp [subL, hab]
  · intro n h1 h2
    simp only [subL, List.getElem_zipWith, List.getElem_set]
    by_cases h : p = n
    · subst h; simp [hpb]; omega
    · simp [h]
theorem sub_zero (a : List Int) : subL a (zeros a.length) = a := by
  induction a with
  | nil => rfl
  | cons x a ih => simp [subL, zeros, List.replicate_succ] at ih ⊢; exact ih
theorem sub_eq : ∀ {a b : List Int}, a.length = b.length → ((subL a b).filter (fun x => !decide (x = 0))).isEmpty = decide (b = a)
  | [], [], _ => by simp [subL]
  | [], _ :: _, h => by simp at h
  | _ :: _, [], h => by simp at h
  | x :: a, y :: b, h => by
    have ih := sub_eq (a := a) (b := b) (by simpa using h)
    unfold subL at ih ⊢
    rw [List.zipWith_cons_cons]
    by_cases e : x - y = 0
    · have e2 : y = x := by omega
      rw [List.filter_cons_of_neg (by simp [e]), ih]
      simp [e2]
    · have e2 : ¬ y = x := by omega
      rw [List.filter_cons_of_pos (by simp [e])]
      simp [e2]
theorem sub_le : ∀ {a b : List Int}, a.length = b.length → ((subL a b).filter (fun x => decide (x < 0))).isEmpty = (b.zip a).all (fun z => decide (z.1 ≤ z.2))
  | [], [], _ => by simp [subL]
  | [], _ :: _, h => by simp at h
  | _ :: _, [], h => by simp at h
  | x :: a, y :: b, h => by
    have ih := sub_le (a := a) (b := b) (by simpa using h)
    unfold subL at ih ⊢
    rw [List.zipWith_cons_cons]
    by_cases e : x - y < 0
    · have e2 : ¬ y ≤ x := by omega
      rw [List.filter_cons_of_pos (by simp [e])]
      simp [e2]
    · have e2 : y ≤ x := by omega
      rw [List.filter_cons_of_neg (by simp [e]), ih]
      simp [e2]
def stepR (xs : List Int) (st : List Int × List Int) (r : Rw) : List Int × List Int := mvStep st (some (r.2.1, r.2.2.1), xs.getD r.1 0)
def mvR (n : Nat) (xs : List Int) (rows : List Rw) : List Int × List Int := rows.foldl (stepR xs) (zeros n, zeros n)
theorem mvR_snoc (n : Nat) (xs : List Int) (rows : List Rw) (r : Rw) : mvR n xs (rows ++ [r]) = stepR xs (mvR n xs rows) r := by simp [mvR, List.foldl_append]
theorem mvR_len (n : Nat) (xs : List Int) (rows : List Rw) : (mvR n xs rows).1.length = n ∧ (mvR n xs rows).2.length = n := by
  have : ∀ (rows : List Rw) (s : List Int × List Int), s.1.length = n → s.2.length = n → (rows.foldl (stepR xs) s).1.length = n ∧ (rows.foldl (stepR xs) s).2.length = n := by
    intro rows
    induction rows with
    | nil => intro s h1 h2; exact ⟨h1, h2⟩
    | cons z zs ih =>
      intro s h1 h2
      refine ih _ ?_ ?_
      · simp only [stepR, mvStep, addAt_len]; exact h1
      · simp only [stepR, mvStep]; split
        · rw [addAt_len]; exact h2
        · exact h2
  exact this rows _ (by simp [zeros]) (by simp [zeros])
theorem zs_at {cs : List Int} {gs : List Gp} {xs : List Int} (hl : xs.length = gs.length) {j : Nat} (hj : j < gs.length) : (zsOf cs gs xs)[j]? = some (routeOf cs gs gs[j], xs[j]) := by
  unfold zsOf
  rw [List.getElem?_zip_eq_some]
  exact ⟨by rw [List.getElem?_map, List.getElem?_eq_getElem hj]; rfl, List.getElem?_eq_getElem (by omega)⟩
theorem mvR_all {cs : List Int} {gs : List Gp} {xs : List Int} (hl : xs.length = gs.length) : mvR cs.length xs (rowsTo cs gs gs.length) = mvOf cs.length (zsOf cs gs xs) := by
  have key : ∀ n, n ≤ gs.length → mvR cs.length xs (rowsTo cs gs n) = mvOf cs.length ((zsOf cs gs xs).take n) := by
    intro n
    induction n with
    | zero => intro _; rfl
    | succ n ih =>
      intro h
      have hg : gs[n]? = some gs[n] := List.getElem?_eq_getElem (by omega)
      rw [rowsTo_succ hg, take_snoc (zs_at hl (by omega)), mvOf_snoc, ← ih (by omega)]
      unfold rowAt
      cases hr : routeOf cs gs gs[n] with
      | none => simp [mvStep]
      | some r =>
        show mvR cs.length xs (rowsTo cs gs n ++ [(n, r.1, r.2, gs[n].2)]) = _
        rw [mvR_snoc]
        unfold stepR
        simp only
        rw [List.getD_eq_getElem?_getD, List.getElem?_eq_getElem (show n < xs.length by omega)]
        rfl
  have := key gs.length (Nat.le_refl _)
  rw [List.take_of_length_le (by unfold zsOf; rw [List.length_zip, List.length_map]; omega)] at this
  exact this
theorem row_mem {cs : List Int} {gs : List Gp} {n : Nat} {r : Rw} (h : r ∈ rowsTo cs gs n) : ∃ g, gs[r.1]? = some g ∧ routeOf cs gs g = some (r.2.1, r.2.2.1) ∧ r.1 < n := by
  unfold rowsTo at h
  rw [List.mem_filterMap] at h
  obtain ⟨j, hj, e⟩ := h
  rw [Option.bind_eq_some_iff] at e
  obtain ⟨g, hg, e⟩ := e
  unfold rowAt at e
  obtain ⟨q, hq, e⟩ := Option.map_eq_some_iff.mp e
  subst e
  exact ⟨g, hg, hq, List.mem_range.mp hj⟩
theorem rows_has {cs : List Int} {gs : List Gp} {n k : Nat} (hk : k < n) (hkg : k < gs.length) : ((rowsTo cs gs n).map (fun r => (r.1 : Int))).contains (k : Int) = (routeOf cs gs gs[k]).isSome := by
  rw [Bool.eq_iff_iff, List.contains_iff_mem]
  constructor
  · intro h
    obtain ⟨r, hr, e⟩ := List.mem_map.mp h
    obtain ⟨g, hg, hq, _⟩ := row_mem hr
    have e : r.1 = k := by have e : (r.1 : Int) = k := e; omega
    rw [e, List.getElem?_eq_getElem hkg] at hg
    cases hg
    rw [hq]; rfl
  · intro h
    obtain ⟨q, hq⟩ := Option.isSome_iff_exists.mp h
    refine List.mem_map.mpr ⟨(k, q.1, q.2, gs[k].2), ?_, rfl⟩
    unfold rowsTo
    rw [List.mem_filterMap]
    refine ⟨k, List.mem_range.mpr hk, ?_⟩
    rw [List.getElem?_eq_getElem hkg]
    unfold rowAt
    show Option.map _ (routeOf cs gs gs[k]) = _
    rw [hq]; rfl
def othOf (cs : List Int) (gs : List Gp) (n : Nat) : List Nat := (List.range n).filter (fun k => !((rowsTo cs gs gs.length).map (fun r => (r.1 : Int))).contains (k : Int))
theorem oth_good {cs : List Int} {gs : List Gp} {xs : List Int} (hl : xs.length = gs.length) : (((othOf cs gs xs.length).map (fun (k : Nat) => (k : Int))).filter (fun k => !decide (xs.getD k.toNat 0 = 0))).isEmpty = (zsOf cs gs xs).all goodZ := by
  rw [Bool.eq_iff_iff, List.isEmpty_iff, List.filter_eq_nil_iff, List.all_eq_true]
  constructor
  · intro h z hz
    obtain ⟨k, hk, e⟩ := List.mem_iff_getElem.mp hz
    have hkg : k < gs.length := by have := hk; unfold zsOf at this; rw [List.length_zip, List.length_map] at this; omega
    have e2 := zs_at (cs := cs) hl hkg
    rw [List.getElem?_eq_getElem hk, e] at e2
    cases e2
    unfold goodZ
    cases hr : routeOf cs gs gs[k] with
    | some r => rfl
    | none =>
      have := h (k : Int) (List.mem_map.mpr ⟨k, ?_, rfl⟩)
      · rw [Int.toNat_natCast, List.getD_eq_getElem?_getD, List.getElem?_eq_getElem (show k < xs.length by omega)] at this
        simpa using this
      · unfold othOf
        rw [List.mem_filter]
        refine ⟨List.mem_range.mpr (by omega), ?_⟩
        rw [rows_has hkg hkg, hr]; rfl
  · intro h k hk0
    obtain ⟨k, hk, rfl⟩ := List.mem_map.mp hk0
    unfold othOf at hk
    rw [List.mem_filter, List.mem_range] at hk
    have hkg : k < gs.length := by omega
    rw [rows_has hkg hkg] at hk
    have := h _ (List.mem_of_getElem? (zs_at (cs := cs) hl hkg))
    unfold goodZ at this
    rw [Int.toNat_natCast, List.getD_eq_getElem?_getD, List.getElem?_eq_getElem (show k < xs.length by omega)]
    cases hr : routeOf cs gs gs[k] with
    | some r => rw [hr] at hk; simp at hk
    | none => rw [hr] at this; simpa using this
theorem meets_by {cs : List Int} {gs : List Gp} {xs : List Int} (hl : xs.length = gs.length) : meetsD cs gs xs =
    ((((othOf cs gs xs.length).map (fun (k : Nat) => (k : Int))).filter (fun k => !decide (xs.getD k.toNat 0 = 0))).isEmpty && ((subL (rExc cs gs) (mvR cs.length xs (rowsTo cs gs gs.length)).1).filter (fun x => !decide (x = 0))).isEmpty && ((subL (rFre cs gs) (mvR cs.length xs (rowsTo cs gs gs.length)).2).filter (fun x => decide (x < 0))).isEmpty) := by
  have hm := mvOf_len cs.length (zsOf cs gs xs)
  rw [mvR_all hl, oth_good hl, sub_eq (by rw [rExc_len, hm.1]), sub_le (by rw [rFre_len, hm.2])]
  rfl
theorem oth_mem {cs : List Int} {gs : List Gp} {n : Nat} {k : Int} (h : k ∈ (othOf cs gs n).map (fun (k : Nat) => (k : Int))) : ∃ m : Nat, k = m ∧ m < n := by
  obtain ⟨m, hm, rfl⟩ := List.mem_map.mp h
  unfold othOf at hm
  rw [List.mem_filter, List.mem_range] at hm
  exact ⟨m, rfl, hm.1⟩
theorem Rl.app {β : Type} {R : V → β → Prop} {vs ws : List V} {rs ss : List β} (h : Rl R vs rs) (h' : Rl R ws ss) : Rl R (vs ++ ws) (rs ++ ss) := by
  refine ⟨by simp [h.1, h'.1], fun j v r h1 h2 => ?_⟩
  by_cases hj : j < vs.length
  · rw [List.getElem?_append_left hj] at h1
    rw [List.getElem?_append_left (by rw [← h.1]; exact hj)] at h2
    exact h.2 j v r h1 h2
  · rw [List.getElem?_append_right (by omega)] at h1
    rw [List.getElem?_append_right (by rw [← h.1]; omega), ← h.1] at h2
    exact h'.2 _ v r h1 h2
def TuV (K : PySem.W.Frag) (H : Hp) (v : V) (xs : List Int) : Prop := ∃ T, v = .ref T ∧ SqT K H T (xs.map V.int)
theorem TuV.tk {K : PySem.W.Frag} {H H' : Hp} {v : V} {xs : List Int} (h : TuV K H v xs) (s : TupK H H') : TuV K H' v xs := by
  obtain ⟨T, e, h⟩ := h; exact ⟨T, e, s.sq h⟩
theorem ext_dom {H H1 : Hp} {st g : Addr} {t t' : Nat} (d0 : DV H st g t) (x : Ext st g H H1) (d1 : DV H1 st g t') {a : Addr} (h : dom H a) : dom H1 a := by
  by_cases h1 : a = st
  · rw [h1]; exact d1.occ.1
  by_cases h2 : a = g
  · rw [h2]; exact d1.occ.2
  unfold dom at *
  cases e : H a with
  | none => exact absurd e h
  | some o => rw [x _ _ e h1 h2]; simp
theorem ext_new {H H1 : Hp} {st g : Addr} {t t' : Nat} (d0 : DV H st g t) (x : Ext st g H H1) (d1 : DV H1 st g t') {a : Addr} (n : H1 a = none) (h : dom H a) : False := ext_dom d0 x d1 h n
theorem IT.cutN {K : PySem.W.Frag} {H : Hp} {a : Addr} {L M : Nat} {Q : VK} {σ : L2.St} (h : IT K H a L M) (lo : Option Int) (q : ∀ (H' : Hp) (b : Addr), Same H H' → IT K H' b L M → Q (.ref b) H') : tNoPart σ H (fun u H3 => rSlA K (.ref a) lo u H3 Q) := IT.cut h lo none q
def MM : Nat := 10 ^ 12
theorem wt_ints (ns : List Int) : wtAll (ns.map PyData.int) = ns.length * 42 := by
  induction ns with
  | nil => rfl
  | cons a ns ih => simp only [List.map_cons, wtAll, wt, ih, List.length_cons]; omega
def VF (K : PySem.W.Frag) (X : Addr → Prop) (H : Hp) (v : V) : Prop := ∃ d, Dw K X H v d ∧ Fit (10 ^ 29) 4 5000 d
theorem VF.l {K : PySem.W.Frag} {X : Addr → Prop} {H H' : Hp} {v : V} (h : VF K X H v) (l : LX X H H') : VF K X H' v := by
  obtain ⟨d, h1, h2⟩ := h; exact ⟨d, h1.lx l, h2⟩
theorem IT.vf {K : PySem.W.Frag} {X : Addr → Prop} {H : Hp} {p : Addr} {L M : Nat} (h : IT K H p L M) (hL : L ≤ 100) (hM : M ≤ 10 ^ 29) : VF K X H (.ref p) := by
  obtain ⟨xs, h1, h2, h3⟩ := h
  exact ⟨dI xs, .of_dp (to_ints xs) (dI_sq h1), (fit_dI h3).mono hM (by decide) (by omega)⟩
def ITn (K : PySem.W.Frag) (H : Hp) (p : Addr) : Prop := ∃ xs : List Int, SqT K H p (xs.map V.int) ∧ 1 ≤ xs.length ∧ xs.length ≤ 10 ∧ ∀ x ∈ xs, x.natAbs ≤ 10 ^ 12
theorem ITn.tk {K : PySem.W.Frag} {H H' : Hp} {p : Addr} (h : ITn K H p) (s : TupK H H') : ITn K H' p := by obtain ⟨xs, h1, h2⟩ := h; exact ⟨xs, s.sq h1, h2⟩
theorem ITn.vf {K : PySem.W.Frag} {X : Addr → Prop} {H : Hp} {p : Addr} (h : ITn K H p) : VF K X H (.ref p) := by
  obtain ⟨xs, h1, h2, h3, h4⟩ := h
  exact IT.vf (L := 10) (M := 10 ^ 12) ⟨xs, h1, h3, h4⟩ (by decide) (by decide)
def X2 (st g : Addr) (a : Addr) : Prop := a = st ∨ a = g
theorem x2_dom {H : Hp} {st g a : Addr} {t : Nat} (d : DV H st g t) (h : X2 st g a) : dom H a := by
  rcases h with h | h
  · rw [h]; exact d.occ.1
  · rw [h]; exact d.occ.2
def Xd3 (st g D : Addr) (a : Addr) : Prop := a = st ∨ a = g ∨ a = D
end Pv

namespace Pv
open PySem PySem.Spec PyProof.Rows L2
/-! a third drawing state: a list of the cells, the turn and the rests -/
structure DU (H : Hp) (st c r : Addr) (t : Nat) : Prop where
  hs : H st = some (.lst [.ref c, .int t, .ref r])
  ex : ∃ cells rests : List Int, H c = some (.lst (cells.map V.int)) ∧ H r = some (.lst (rests.map V.int)) ∧ cells.length = rests.length ∧ 0 < cells.length ∧ cells.length ≤ 100 ∧ ∀ x ∈ rests, 0 ≤ x
  n1 : c ≠ r
  n2 : st ≠ c
  n3 : st ≠ r
section
variable {H H1 H2 : Hp} {st c r p : Addr} {t : Nat} {o : HO}
theorem DU.tup (d : DU H st c r t) (e : Ext st r H H1) : TupK H H1 := by
  obtain ⟨cells, rests, hc, hr, _⟩ := d.ex
  intro b xs
  refine ⟨fun h => ?_, fun u h => ?_⟩
  · exact e _ _ h (ne_of h d.hs (by intro z; cases z)) (ne_of h hr (by intro z; cases z))
  · exact e _ _ h (ne_of h d.hs (by intro z; cases z)) (ne_of h hr (by intro z; cases z))
theorem DU.same (d : DU H st c r t) (s : Same H H1) : DU H1 st c r t := by
  obtain ⟨cells, rests, hc, hr, q⟩ := d.ex
  exact ⟨s _ _ d.hs, ⟨cells, rests, s _ _ hc, s _ _ hr, q⟩, d.n1, d.n2, d.n3⟩
theorem DU.new (d : DU H st c r t) (np : H p = none) : DU (upd H p o) st c r t := d.same (sameNew np)
theorem DU.put (d : DU H st c r t) (h : p ≠ st ∧ p ≠ c ∧ p ≠ r) : DU (upd H p o) st c r t := by
  obtain ⟨cells, rests, hc, hr, q⟩ := d.ex
  obtain ⟨h1, h2, h3⟩ := h
  exact ⟨by rw [upd_ne h1.symm]; exact d.hs, ⟨cells, rests, by rw [upd_ne h2.symm]; exact hc, by rw [upd_ne h3.symm]; exact hr, q⟩, d.n1, d.n2, d.n3⟩
theorem DU.off (d : DU H st c r t) (np : H p = none) : p ≠ st ∧ p ≠ c ∧ p ≠ r := by
  obtain ⟨cells, rests, hc, hr, q⟩ := d.ex
  exact ⟨(ne_of_none d.hs np).symm, (ne_of_none hc np).symm, (ne_of_none hr np).symm⟩
theorem DU.lasts (d : DU H st c r t) (x : Ext st r H H1) : Lasts st r H H1 := by
  obtain ⟨cells, rests, hc, hr, q⟩ := d.ex
  refine ⟨d.tup x, fun a xs e n1 n2 => x _ _ e n1 n2, fun a kvs e => ?_⟩
  exact x _ _ e (ne_of e d.hs (by intro z; cases z)) (ne_of e hr (by intro z; cases z))
theorem DU.nil (d : DU H1 st c r t) (x : Ext st r H H1) (np : H1 p = none) : H p = none := by
  obtain ⟨o1, o2, o3⟩ := d.off np
  cases e : H p with
  | none => rfl
  | some o => have := x _ _ e o1 o3; rw [np] at this; cases this
theorem DU.occ (d : DU H st c r t) : H st ≠ none ∧ H r ≠ none := by
  obtain ⟨cells, rests, hc, hr, _⟩ := d.ex
  exact ⟨by rw [d.hs]; simp, by rw [hr]; simp⟩
end
end Pv

namespace Pv
open PySem PySem.Spec PyProof.Rows L2
def topS (i : Nat) : Stmt := PySem.Challenge.pw_postvote_k50_all_assignments_listed.main.body.getD i (.Pass ⟨0, 0, 0, 0⟩)
abbrev sSt : Stmt := topS 13
theorem scSt : FnScope ["_law_script", "_law_cells", "_law_cell"] ["_law_script"] (defScope sSt) := ⟨rfl, rfl, rfl, by decide +kernel, rfl, by decide +kernel, by decide +kernel⟩
abbrev sDr : Stmt := topS 14
theorem scDr : FnScope ["_law_deck_here", "_law_many", "_law_cells", "_law_count", "_law_rests", "_law_seat", "_law_digits", "_law_mixed_here"] ["_law_deck_here", "_law_many"] (defScope sDr) := ⟨rfl, rfl, rfl, by decide +kernel, rfl, by decide +kernel, by decide +kernel⟩
theorem b01 (b : Bool) : -(2 ^ 64) < (if b = true then (1 : Int) else 0) ∧ (if b = true then (1 : Int) else 0) < 2 ^ 64 := by cases b <;> decide
section
variable {P : Program} {w : World} {K : PySem.W.Frag} {mg : Str → Option Value} {base : Heap}
def spStart (K : PySem.W.Frag) : Sp := fun vs H Q _ => ∃ (a : Addr) (ns : List Int), vs = [.ref a] ∧ SqL K H a (ns.map V.int) ∧ ns.length ≤ 63 ∧
  ∀ H' st c r, Same H H' → DU H' st c r 0 → Q (.ref st) H'
set_option maxHeartbeats 4000000 in
theorem ok_St {f : Addr} {fd : FuncData} (F : Fun K "_law_deck" "_law_deck" sSt f fd)
    (m_list : mg "list" = none) (m_len : mg "len" = none) (m_int : mg "int" = none) :
    FnOk P w K mg base CX0 1 f fd ["_law_script"] (spStart K) := by
  refine F.ok scSt (fun vs H Q E h => ?_) (fun cdv A outer s H vs Q E hr h => ?_)
  · obtain ⟨a, ns, rfl, _⟩ := h; rfl
  · obtain ⟨a, ns, rfl, hS, hn, q⟩ := h
    refine ⟨_, pss_cons (ps_set (i := 1) scSt.nd rfl (.inl rfl) (pe_op op_cat (pe_callTy call_list_of (by rfl) m_list (by decide +kernel) (pa_cons (pe_slice sl_list (pv 0) po_none (po_some (pe_int))) pa_nil)) (pe_op op_rep (pe_lst (pa_cons (pe_int) pa_nil)) (pe_callTy call_int1 (by rfl) m_int (by decide +kernel) (pa_cons (pe_cmpR op_eq (pe_callB call_lenQ (by rfl) m_len PySem.boot_len (pa_cons (pv 0) pa_nil)) (pe_int) (nomark _)) pa_nil)))))
      (pss_one (ps_ret (pe_lst (pa_cons (pv 1) (pa_cons (pe_int) (pa_cons (pe_lc (own := [("_law_cell", 2)]) (g := gName 2) (tt := tYes) (te := tOp (rI CMul fun i j => .int (i * j)) (tVar 2) (tCB (fun xs H Q => (∃ i, xs = [.int i] ∧ Q (.int i) H) ∨ ∃ k, xs = [.bl k] ∧ Q (.int (if k then 1 else 0)) H) (tCons (tOp (rI0 fun i j => .bl (decide (j ≤ i))) (tVar 2) (tOp (rI CPow fun i j => .int (i ^ j.toNat)) (tC (.int 10)) (tC (.int 18)))) tNil))) rfl scSt.nd (pi_list (pv 1)) (blkOk_by (N := ["_law_script", "_law_cells", "_law_cell"]) (sc := defScope sSt) (by decide +kernel)) (fun _ _ _ _ _ => pg_name (i := 2) scSt.nd rfl (.inl rfl)) (fun _ _ _ _ _ => pts_nil) (fun _ _ _ _ _ => pe_op op_mul (pv 2) (pe_callTy call_int1 (by rfl) m_int (by decide +kernel) (pa_cons (pe_cmpR op_ge (pv 2) (pe_op op_pow (pe_int) (pe_int)) (nomark _)) pa_nil)))) pa_nil)))))), ?_⟩
    have hcut : cutV (ns.map V.int) none (some 60) = (ns.take 60).map V.int := by rw [List.map_take]; exact cut_to _ 60
    obtain ⟨n6, hn6⟩ : ∃ n6, ns.take 60 = n6 := ⟨_, rfl⟩
    have hn : n6.length ≤ 60 := by rw [← hn6, List.length_take]; omega
    rw [hn6] at hcut
    refine ⟨.ref a, rfl, 60, rfl, a, _, rfl, hS, fun p np => ⟨p, _, rfl, .inl (SqL.of upd_same), fun D nD => ?_⟩⟩
    rw [hcut]
    have s1 := (sameNew (o := .lst (n6.map V.int)) np).trans (sameNew (o := .lst (n6.map V.int)) (by rw [hcut] at nD; exact nD))
    have eD : (upd (upd H p (.lst (n6.map V.int))) D (.lst (n6.map V.int))) D = some (.lst (n6.map V.int)) := upd_same
    generalize upd (upd H p (.lst (n6.map V.int))) D (.lst (n6.map V.int)) = H2 at s1 eD ⊢
    refine ⟨by decide, fun p1 n1 => ⟨.ref a, rfl, a, _, rfl, .inl ((s1.trans (sameNew n1)).seq hS), rfl, .inr ⟨_, rfl, p1, _, _, rfl, rfl, upd_same, by split <;> decide, by split <;> decide, by split <;> decide, fun p2 n2 => ?_⟩⟩⟩
    generalize hb : decide (V.int ((List.map V.int ns).length : Int) = V.int 0) = b at n2 ⊢
    have e2' := upNew n2 (o := .lst (List.replicate (if b = true then (1 : Int) else 0).toNat [V.int 9]).flatten) (upNew n1 (o := .lst [.int 9]) eD)
    have hl0 : n6.length = 0 ↔ b = true := by
      rw [← hb, decide_eq_true_eq, List.length_map, ← hn6, List.length_take]
      constructor
      · intro h; rw [show ns.length = 0 by omega]; rfl
      · intro h; have := V.int.inj h; omega
    have hrep : (List.replicate (if b = true then (1 : Int) else 0).toNat [V.int 9]).flatten = ((if b = true then [9] else []) : List Int).map V.int := by cases b <;> rfl
    refine ⟨D, p2, _, _, rfl, rfl, e2', upd_same, ?_, fun C nC => ?_⟩
    · rw [hrep, List.length_map, List.length_map]; have : (if b = true then [9] else [] : List Int).length ≤ 1 := by split <;> simp
      have h5 := small (n := 100) (by omega); omega
    rw [hrep, ← List.map_append] at *
    generalize hcl : n6 ++ (if b = true then [9] else []) = cells
    have hcl0 : 0 < cells.length ∧ cells.length ≤ 64 := by
      rw [← hcl, List.length_append]
      by_cases hb1 : b = true
      · rw [if_pos hb1]; simp; omega
      · rw [if_neg hb1]
        have : n6.length ≠ 0 := fun z => hb1 (hl0.mp z)
        simp; omega
    generalize hHC : upd (upd (upd H2 p1 (.lst [.int 9])) p2 (.lst (((if b = true then [9] else []) : List Int).map V.int))) C (.lst (cells.map V.int)) = HC
    have eC : HC C = some (.lst (cells.map V.int)) := by rw [← hHC]; exact upd_same
    have s0C : Same H HC := by rw [← hHC]; exact ((s1.trans (sameNew n1)).trans (sameNew n2)).trans (sameNew nC)
    refine ⟨.ref C, rfl, .ref C, rfl, C, rfl, ⟨_, SqL.of eC⟩, fun R nR => lc_it (walk_list (K := K) (a := C) (xs := cells.map V.int))
      (LcP HC R cells (fun z => some (.int (z * (if decide ((10 : Int) ^ (18 : Int).toNat ≤ z) = true then 1 else 0))))) (.start nR) (fun j H3 _ h => SqL.of (h.1 _ _ eC)) ?_ ?_⟩
    · rintro j x H3 H4 hj hL ⟨rfl, hx⟩
      have hx : (cells.map V.int)[j]? = some x := hx
      rw [List.length_map] at hj
      rw [atS hj] at hx
      cases hx
      refine ⟨rfl, .int cells[j], rfl, .int cells[j], rfl, _, _, rfl, rfl, ⟨by decide, by decide, by decide⟩, _, _, rfl, rfl, .inr ⟨_, rfl, _, _, rfl, rfl, .inr ⟨(b01 _).1, (b01 _).2⟩, ?_⟩⟩
      exact hL.yes nR (Same.refl _) (List.getElem?_eq_getElem hj) rfl (by omega)
    · rintro H3 hL
      have e3 := hL.done (by rw [List.length_map]; exact Nat.le_refl _)
      rw [fm_map] at e3
      have em : cells.map (fun z => V.int (z * (if decide ((10 : Int) ^ (18 : Int).toNat ≤ z) = true then 1 else 0))) = (cells.map (fun z => z * (if decide ((10 : Int) ^ (18 : Int).toNat ≤ z) = true then 1 else 0))).map V.int := by rw [List.map_map]; rfl
      rw [em] at e3
      refine ⟨(show (3 : Nat) ≤ sizeLine by decide), fun st nst => q _ st C R ((s0C.trans hL.1).trans (sameNew nst)) ⟨upd_same, ⟨cells, _, upNew nst (hL.1 _ _ eC), upNew nst e3, by rw [List.length_map], hcl0.1, by omega, ?_⟩, ne_of_none eC nR, ?_, ?_⟩⟩
      · intro x hx
        obtain ⟨c, hc, rfl⟩ := List.mem_map.mp hx
        split
        · rename_i h; have := of_decide_eq_true h; have h10 : (0 : Int) ≤ 10 ^ (18 : Int).toNat := by decide
          omega
        · omega
      · exact (ne_of_none (hL.1 _ _ eC) nst).symm
      · exact (ne_of_none e3 nst).symm
def spDraw : Sp := fun vs H Q _ => ∃ (st c r : Addr) (t : Nat) (m : Int), vs = [.ref st, .int m] ∧ DU H st c r t ∧ t < 900000 ∧ 0 < m ∧ m ≤ 2 ^ 60 ∧
  ∀ (H' : Hp) (d : Int), 0 ≤ d → d < m → DU H' st c r (t + 1) → Ext st r H H' → Q (.int d) H'
set_option maxHeartbeats 4000000 in
theorem ok_Dr {f : Addr} {fd : FuncData} (F : Fun K "_law_draw" "_law_draw" sDr f fd)
    (m_len : mg "len" = none) :
    FnOk P w K mg base CX0 1 f fd ["_law_deck_here", "_law_many"] spDraw := by
  refine F.ok scDr (fun vs H Q E h => ?_) (fun cdv A outer s H vs Q E hr h => ?_)
  · obtain ⟨st, c, r, t, m, rfl, _⟩ := h; rfl
  · obtain ⟨st, c, r, t, m, rfl, hd, ht, hm, hm2, q⟩ := h
    refine ⟨_, pss_cons (ps_asg (pv 0) (pg_unl rfl (pgs_cons (pg_name (i := 2) scDr.nd rfl (.inl rfl)) (pgs_cons (pg_name (i := 3) scDr.nd rfl (.inl rfl)) (pgs_cons (pg_name (i := 4) scDr.nd rfl (.inl rfl)) pgs_nil)))))
      (pss_cons (ps_set (i := 5) scDr.nd rfl (.inl rfl) (pe_op op_mod (pv 3) (pe_callB call_lenQ (by rfl) m_len PySem.boot_len (pa_cons (pv 2) pa_nil))))
      (pss_cons (ps_asg (pe_op op_add (pv 3) (pe_int)) (pg_sub (pv 0) (pe_int) set_list))
      (pss_cons (ps_if (pt_cmpR op_gt (pe_ix ix_list (pv 4) (pv 5) (fun _ _ => rfl)) (pe_int) (nomark _))
        (pss_cons (ps_set (i := 6) scDr.nd rfl (.inl rfl) (pe_ix ix_list (pv 4) (pv 5) (fun _ _ => rfl)))
        (pss_cons (ps_asg (pe_op op_fdivW (pv 6) (pv 1)) (pg_sub (pv 4) (pv 5) set_list))
        (pss_one (ps_ret (pe_op op_mod (pv 6) (pv 1)))))) pss_nil)
      (pss_cons (ps_set (i := 7) scDr.nd rfl (.inl rfl) (pe_op op_add (pe_op op_add (pe_op op_add (pe_op op_mod (pe_ix ix_list (pv 2) (pv 5) (fun _ _ => rfl)) (pe_int)) (pe_op op_mul (pe_op op_mul (pe_int) (pv 3)) (pv 3))) (pe_op op_mul (pe_int) (pv 3))) (pe_int)))
      (pss_cons (ps_set (i := 7) scDr.nd rfl (.inl rfl) (pe_op op_mod (pe_op op_pow (pv 7) (pe_int)) (pe_int)))
      (pss_cons (ps_set (i := 7) scDr.nd rfl (.inl rfl) (pe_op op_mod (pe_op op_pow (pe_op op_add (pv 7) (pe_op op_mul (pe_int) (pv 3))) (pe_int)) (pe_int)))
      (pss_one (ps_ret (pe_op op_mod (pe_op op_fdiv (pv 7) (pe_int)) (pv 1)))))))))), ?_⟩
    obtain ⟨cells, rests, hc, hrr, hl, hl0, hl1, hnn⟩ := hd.ex
    refine ⟨.ref st, rfl, st, _, rfl, SqL.of hd.hs, rfl, _, _, rfl, _, _, rfl, _, _, rfl, rfl, ?_⟩
    refine ⟨.int t, rfl, .ref c, rfl, c, _, rfl, .inl (SqL.of hc), _, _, rfl, rfl, by rw [List.length_map]; omega, ?_⟩
    have hn : (List.map V.int cells).length = cells.length := List.length_map ..
    have hsp : ((t : Int) % (((List.map V.int cells).length : Nat) : Int)) = ((t % cells.length : Nat) : Int) := by rw [hn]; norm_cast
    have hlt : t % cells.length < cells.length := Nat.mod_lt _ hl0
    generalize hj : t % cells.length = j at hsp hlt
    obtain ⟨x, hx⟩ : ∃ x, rests[j]? = some x := ⟨rests[j], List.getElem?_eq_getElem (by omega)⟩
    obtain ⟨y, hy⟩ : ∃ y, cells[j]? = some y := ⟨cells[j], List.getElem?_eq_getElem (by omega)⟩
    have hx0 : 0 ≤ x := hnn x (List.mem_of_getElem? hx)
    have hxv : (rests.map V.int)[j]? = some (.int x) := by rw [List.getElem?_map, hx]; rfl
    have hyv : (cells.map V.int)[j]? = some (.int y) := by rw [List.getElem?_map, hy]; rfl
    dsimp only
    rw [hsp]
    refine ⟨.int t, rfl, _, _, rfl, rfl, .ref st, rfl, st, _, 1, 1, rfl, rfl, hd.hs, rfl, ?_⟩
    have e0 : (upd H st (.lst [.ref c, .int ((t : Int) + 1), .ref r])) st = some (.lst [.ref c, .int ((t : Int) + 1), .ref r]) := upd_same
    have e1 : (upd H st (.lst [.ref c, .int ((t : Int) + 1), .ref r])) r = some (.lst (rests.map V.int)) := by rw [upd_ne hd.n3.symm]; exact hrr
    have e2 : (upd H st (.lst [.ref c, .int ((t : Int) + 1), .ref r])) c = some (.lst (cells.map V.int)) := by rw [upd_ne hd.n2.symm]; exact hc
    have ex0 : Ext st r H (upd H st (.lst [.ref c, .int ((t : Int) + 1), .ref r])) := fun b o h n1 _ => by rw [upd_ne n1]; exact h
    have d0 : DU (upd H st (.lst [.ref c, .int ((t : Int) + 1), .ref r])) st c r (t + 1) := ⟨upd_same, ⟨cells, rests, e2, e1, hl, hl0, hl1, hnn⟩, hd.n1, hd.n2, hd.n3⟩
    refine ⟨.ref r, rfl, .int j, rfl, r, _, _, .int x, rfl, rfl, SqL.of e1, atI_nat hxv, _, _, rfl, rfl, _, rfl, ite2 (fun hgt => ?_) (fun hle => ?_)⟩
    · refine ⟨.ref r, rfl, .int j, rfl, r, _, _, .int x, rfl, rfl, SqL.of e1, atI_nat hxv, ?_⟩
      refine ⟨.int x, rfl, .int m, rfl, _, _, rfl, rfl, wide_div (b := 61) hm (by omega) (by decide) (by decide), .ref r, rfl, .int j, rfl, r, _, _, j, rfl, rfl, e1, ixN_nat (by rw [List.length_map]; omega), ?_⟩
      refine ⟨.int x, rfl, .int m, rfl, _, _, rfl, rfl, hm, q _ _ (Int.emod_nonneg _ (by omega)) (Int.emod_lt_of_pos _ hm) ?_ ?_⟩
      · refine ⟨by rw [upd_ne hd.n3]; exact upd_same, ⟨cells, rests.set j (x / m), by rw [upd_ne hd.n1]; exact e2, by rw [upd_same, List.map_set], by rw [List.length_set]; exact hl, hl0, hl1, ?_⟩, hd.n1, hd.n2, hd.n3⟩
        intro z hz
        rcases List.mem_or_eq_of_mem_set hz with h | h
        · exact hnn z h
        · rw [h]; exact Int.ediv_nonneg hx0 (by omega)
      · exact fun b o h n1 n2 => by rw [upd_ne n2]; exact ex0 b o h n1 n2
    · have hy1 : 0 ≤ y % 2147483587 := Int.emod_nonneg _ (by decide)
      have hy2 : y % 2147483587 < 2147483587 := Int.emod_lt_of_pos _ (by decide)
      have hsq : 0 ≤ 31337 * (t : Int) * (t : Int) ∧ 31337 * (t : Int) * (t : Int) ≤ 31337 * 1000000 * 1000000 := by
        have h1 : 0 ≤ 31337 * (t : Int) := by omega
        have h2 : 31337 * (t : Int) ≤ 31337 * 1000000 := by omega
        exact ⟨Int.mul_nonneg h1 (by omega), Int.mul_le_mul h2 (by omega) (by omega) (by omega)⟩
      refine ⟨.ref c, rfl, .int j, rfl, c, _, _, .int y, rfl, rfl, SqL.of e2, atI_nat hyv, _, _, rfl, rfl, (by show (0 : Int) < 2147483587; decide), .int t, rfl, _, _, rfl, rfl, .inl ⟨by decide, by decide⟩, .int t, rfl, _, _, rfl, rfl, .inl (by omega), _, _, rfl, rfl, .int t, rfl, _, _, rfl, rfl, .inl ⟨by decide, by decide⟩, _, _, rfl, rfl, _, _, rfl, rfl, ?_⟩
      dsimp only
      generalize hu : y % 2147483587 + 31337 * (t : Int) * (t : Int) + 6737 * (t : Int) + 83 = u
      have hu1 : 0 ≤ u ∧ u < 2 ^ 60 := by omega
      refine ⟨.int u, rfl, _, _, rfl, rfl, ⟨by decide, by decide, by omega⟩, _, _, rfl, rfl, (by show (0 : Int) < 2305843009213693921; decide), ?_⟩
      dsimp only
      generalize hz : u ^ (3 : Int).toNat % 2305843009213693921 = z
      have hz1 : 0 ≤ z := by rw [← hz]; exact Int.emod_nonneg _ (by decide)
      have hz2 : z < 2305843009213693921 := by rw [← hz]; exact Int.emod_lt_of_pos _ (by decide)
      refine ⟨.int z, rfl, .int t, rfl, _, _, rfl, rfl, .inl ⟨by decide, by decide⟩, _, _, rfl, rfl, _, _, rfl, rfl, ⟨by decide, by decide, by omega⟩, _, _, rfl, rfl, (by show (0 : Int) < 2305843009213693951; decide), ?_⟩
      refine ⟨_, rfl, _, _, rfl, rfl, ⟨by decide, by decide⟩, .int m, rfl, _, _, rfl, rfl, hm, ?_⟩
      exact q _ _ (Int.emod_nonneg _ (by omega)) (Int.emod_lt_of_pos _ hm) d0 ex0
end
end Pv

namespace Pv
open PySem PySem.Spec PyProof.Rows L2
abbrev sMx : Stmt := topS 16
theorem scMx : FnScope ["_law_deck_here", "_law_items", "_law_pool", "_law_found"] ["_law_deck_here", "_law_items"] (defScope sMx) := ⟨rfl, rfl, rfl, by decide +kernel, rfl, by decide +kernel, by decide +kernel⟩
abbrev sAm : Stmt := topS 18
theorem scAm : FnScope ["_law_deck_here", "_law_most", "_law_few"] ["_law_deck_here", "_law_most"] (defScope sAm) := ⟨rfl, rfl, rfl, by decide +kernel, rfl, by decide +kernel, by decide +kernel⟩
abbrev sLi : Stmt := topS 19
theorem scLi : FnScope ["_law_deck_here", "_law_posts", "_law_firsts", "_law_reserves", "_law_order", "_law_between"] ["_law_deck_here", "_law_posts"] (defScope sLi) := ⟨rfl, rfl, rfl, by decide +kernel, rfl, by decide +kernel, by decide +kernel⟩
theorem lay_ints : ∀ ns : List Int, PyData.canLayAll0 (ns.map PyData.int) = true
  | [] => by simp [PyData.canLayAll0]
  | n :: ns => by simp [PyData.canLayAll0, PyData.canLay0, lay_ints ns]
theorem dep_ints : ∀ ns : List Int, PyData.depthAll (ns.map PyData.int) = 0
  | [] => by simp [PyData.depthAll]
  | n :: ns => by simp [PyData.depthAll, PyData.depth, dep_ints ns]
theorem shaped_ints (ns : List Int) : SeqAt.shaped (.list (ns.map PyData.int)) = true := by
  show (PyData.canLay0 (.list (ns.map PyData.int)) && decide (PyData.depth (.list (ns.map PyData.int)) ≤ 64)) = true
  rw [Bool.and_eq_true]
  refine ⟨by simp only [PyData.canLay0]; exact lay_ints ns, decide_eq_true ?_⟩
  simp only [PyData.depth, dep_ints]; omega
theorem eqv_empty (ds : List PyData) : PyData.eqv (.list ds) (.list []) = ds.isEmpty := by
  cases ds <;> simp [PyData.eqv, PyData.eqvAll]
def rng (a b : Nat) : List Int := (List.range (b - a)).map fun (i : Nat) => (a : Int) + (i : Int)
theorem rgV_rng (a b : Nat) : rgV (a : Int) (b : Int) = (rng a b).map V.int := by
  unfold rgV rng
  rw [List.map_map, show ((b : Int) - (a : Int)).toNat = b - a by omega]
  rfl
theorem rng_len (a b : Nat) : (rng a b).length = b - a := by simp [rng]
theorem rng_mem {a b : Nat} {x : Int} (h : x ∈ rng a b) : (a : Int) ≤ x ∧ x < b := by
  unfold rng at h
  obtain ⟨i, hi, rfl⟩ := List.mem_map.mp h
  have := List.mem_range.mp hi
  omega
theorem rng_nodup (a b : Nat) : (rng a b).Nodup := by
  unfold rng
  rw [List.nodup_iff_pairwise_ne, List.pairwise_map]
  exact List.Pairwise.imp (fun h e => h (by omega)) List.nodup_range
theorem cut_mid (xs : List Int) (n : Nat) : cutV (xs.map V.int) (some 1) (some ((1 + n : Nat) : Int)) = ((xs.drop 1).take n).map V.int := by
  have h1 : HT.sIx (xs.map V.int).length 0 (some 1) = min 1 (xs.map V.int).length := HT.sIx_nat _ _ 1
  unfold cutV
  rw [h1, HT.sIx_nat, List.map_take, List.map_drop, List.length_map]
  cases xs with
  | nil => simp
  | cons x xs =>
    rw [List.length_cons, show min 1 (xs.length + 1) = 1 by omega]
    by_cases h : 1 + n ≤ xs.length + 1
    · rw [Nat.min_eq_left h, show 1 + n - 1 = n by omega]
    · rw [Nat.min_eq_right (by omega), List.take_of_length_le (by simp), List.take_of_length_le (by simp; omega)]
section
variable {P : Program} {w : World} {K : PySem.W.Frag} {mg : Str → Option Value} {base : Heap}
def spMx (K : PySem.W.Frag) : Sp := fun vs H Q _ => ∃ (st c r l : Addr) (t : Nat) (ns : List Int), vs = [.ref st, .ref l] ∧ DU H st c r t ∧ t + 50 ≤ 900000 ∧ H l = some (.lst (ns.map V.int)) ∧ ns.length ≤ 50 ∧
  ∀ (H' : Hp) (p : Addr) (ms : List Int), (∀ x ∈ ms, x ∈ ns) → (ns.Nodup → ms.Nodup) → ms.length = ns.length → H' p = some (.lst (ms.map V.int)) → p ≠ st → p ≠ c → p ≠ r → H p = none → DU H' st c r (t + ns.length) → Ext st r H H' → Q (.ref p) H'
set_option maxHeartbeats 4000000 in
theorem ok_Mx {f fDr : Addr} {fd fdDr : FuncData} (F : Fun K "_law_mixed" "_law_mixed" sMx f fd)
    (FDr : Fun K "_law_draw" "_law_draw" sDr fDr fdDr) (bDr : Binds K fdDr ["_law_deck_here", "_law_many"] []) (gDr : mg "_law_draw" = some (.ref fDr)) (GDr : FnOk P w K mg base CX0 1 fDr fdDr ["_law_deck_here", "_law_many"] spDraw)
    (m_list : mg "list" = none) (m_len : mg "len" = none) :
    FnOk P w K mg base CX0 2 f fd ["_law_deck_here", "_law_items"] (spMx K) := by
  refine F.ok scMx (fun vs H Q E h => ?_) (fun cdv A outer s H vs Q E hr h => ?_)
  · obtain ⟨st, c, r, l, t, ns, rfl, _⟩ := h; rfl
  · obtain ⟨st, c, r, l, t, ns, rfl, hd, ht, hl, hn, q⟩ := h
    have hu64 : (A.deeper (envOfC "_law_mixed" (defScope sMx) s.heap.objs.size f cdv)).units + 64 < cLine := by have := hr.un; omega
    refine ⟨_, pss_cons (ps_set (i := 2) scMx.nd rfl (.inl rfl) (pe_callTy call_list_of (by rfl) m_list (by decide +kernel) (pa_cons (pv 1) pa_nil)))
      (pss_cons (ps_set (i := 3) scMx.nd rfl (.inl rfl) (pe_lst (pa_nil)))
      (pss_cons (ps_while PassesOwn.never (pt_cmpR (op_neD hu64) (pv 2) (pe_lst (pa_nil)) (nomark _))
        (pss_one (ps_expr (pe_bm PySem.F.plainAttrs_list PySem.F.slot_list_append PySem.F.type_list_append mt_append (pv 3) (pa_cons (pe_bm PySem.F.plainAttrs_list PySem.F.slot_list_pop PySem.F.type_list_pop mt_popAt (pv 2) (pa_cons (pe_call GDr (hr.mono (by omega)) (by rfl) gDr FDr.kp bDr .nil pass0 (pa_cons (pv 0) (pa_cons (pe_callB call_lenQ (by rfl) m_len PySem.boot_len (pa_cons (pv 2) pa_nil)) pa_nil))) pa_nil)) pa_nil)))))
      (pss_one (ps_ret (pv 3))))), ?_⟩
    refine ⟨.ref l, rfl, l, _, rfl, .inl (SqL.of hl), fun Le nLe => ⟨Nat.zero_le _, fun Fo nFo => ?_⟩⟩
    have oLe := hd.off nLe
    have d1 := hd.new nLe (o := .lst (ns.map V.int))
    have oFo := d1.off nFo
    have fFo : H Fo = none := freeOf nFo
    have nLF : Le ≠ Fo := ne_of_none upd_same nFo
    refine ⟨fun m σ H2 => ∃ (ls ms : List Int) (t2 : Nat), σ = [some (.ref st), some (.ref l), some (.ref Le), some (.ref Fo)] ∧ ls.length = m ∧ DU H2 st c r t2 ∧ t2 = t + ms.length ∧ Ext st r H H2 ∧
        H2 Le = some (.lst (ls.map V.int)) ∧ H2 Fo = some (.lst (ms.map V.int)) ∧ ls.length + ms.length = ns.length ∧ (∀ x ∈ ls, x ∈ ns) ∧ (∀ x ∈ ms, x ∈ ns) ∧ (ns.Nodup → (ms ++ ls).Nodup),
      ⟨ns.length, ns, [], t, rfl, rfl, d1.new nFo, rfl, (Ext.of (sameNew nLe)).trans (Ext.of (sameNew nFo)), upNew nFo upd_same, upd_same, rfl, fun x h => h, fun x h => by simp at h, fun h => by simpa using h⟩, ?_⟩
    rintro m σ H2 ⟨ls, ms, t2, rfl, rfl, d2, ht2, x2, eL, eF, hlen, bl, bm, bn⟩
    refine ⟨.ref Le, rfl, Nat.zero_le _, fun p np => ⟨.list (ls.map PyData.int), .list [], .lst (SqL.of (upNew np eL)) (dp_ints ls), .lst (SqL.of upd_same) .nil, shaped_ints ls, by decide, _, rfl, ?_⟩⟩
    rw [eqv_empty]
    have oN := d2.off np
    have eL2 := upNew np (o := .lst []) eL
    have eF2 := upNew np (o := .lst []) eF
    cases ls with
    | nil =>
      have hml : ms.length = ns.length := by simpa using hlen
      have dz : DU (upd H2 p (.lst [])) st c r (t + ns.length) := by rw [← hml, ← ht2]; exact d2.new np
      exact ⟨.ref Fo, rfl, q _ Fo ms bm (fun z => by simpa using bn z) hml eF2 oFo.1 oFo.2.1 oFo.2.2 fFo dz (x2.trans (Ext.of (sameNew np)))⟩
    | cons a ls' =>
      have hpos : 0 < (a :: ls').length := by simp
      refine ⟨fun σ' H' => ∃ (ls2 ms2 : List Int) (t2 : Nat), σ' = [some (.ref st), some (.ref l), some (.ref Le), some (.ref Fo)] ∧ ls2.length = ls'.length ∧ DU H' st c r t2 ∧ t2 = t + ms2.length ∧ Ext st r H H' ∧
        H' Le = some (.lst (ls2.map V.int)) ∧ H' Fo = some (.lst (ms2.map V.int)) ∧ ls2.length + ms2.length = ns.length ∧ (∀ x ∈ ls2, x ∈ ns) ∧ (∀ x ∈ ms2, x ∈ ns) ∧ (ns.Nodup → (ms2 ++ ls2).Nodup), ?_, ?_⟩
      · rintro σ' H' ⟨ls2, ms2, t3, e1, e2, r3⟩
        exact ⟨ls'.length, by simp, ls2, ms2, t3, e1, e2, r3⟩
      · refine ⟨.ref Fo, rfl, .inl ⟨rfl, _, SqL.of eF2⟩, .ref Le, rfl, .inl ⟨rfl, _, SqL.of eL2⟩, .ref st, rfl, .ref Le, rfl, Le, _, rfl, .inl (SqL.of eL2), st, c, r, t2, _, rfl, d2.new np, by omega, by rw [List.length_map]; omega, by rw [List.length_map]; omega, fun H3 d h0 h1 D3 X3 => ?_⟩
        have eL3 := X3 _ _ eL2 oLe.1 oLe.2.2
        have eF3 := X3 _ _ eF2 oFo.1 oFo.2.2
        rw [List.length_map] at h1
        have hk : d.toNat < (a :: ls').length := by omega
        have eF4 : (upd H3 Le (.lst (((a :: ls').map V.int).eraseIdx d.toNat))) Fo = some (.lst (ms.map V.int)) := by rw [upd_ne nLF.symm]; exact eF3
        refine ⟨Le, _, d, d.toNat, .int (a :: ls')[d.toNat], rfl, rfl, eL3, by omega, by simp at hlen h1; omega, seqIndex_of h0 (by rw [List.length_map]; exact h1), by rw [List.getElem?_map, List.getElem?_eq_getElem hk]; rfl, Fo, _, _, rfl, rfl, eF4, ?_, ?_⟩
        · rw [List.length_map]; exact small (by simp at hlen; omega)
        refine ⟨(a :: ls').eraseIdx d.toNat, ms ++ [(a :: ls')[d.toNat]], t2 + 1, rfl, ?_, (D3.put oLe).put oFo, by simp; omega, ExtPut (ExtPut ((x2.trans (Ext.of (sameNew np))).trans X3) nLe) fFo, ?_, ?_, ?_, ?_, ?_, fun z => nodup_step hk (bn z)⟩
        · rw [List.length_eraseIdx_of_lt hk]; simp
        · rw [upd_ne nLF, upd_same, erase_map]
        · rw [upd_same, List.map_append]; rfl
        · rw [List.length_eraseIdx_of_lt hk]; simp at hlen ⊢; omega
        · exact fun x hx => bl x (List.mem_of_mem_eraseIdx hx)
        · intro x hx
          rw [List.mem_append] at hx
          rcases hx with h | h
          · exact bm x h
          · simp only [List.mem_singleton] at h; rw [h]; exact bl _ (List.getElem_mem hk)
def spAm : Sp := fun vs H Q _ => ∃ (st c r : Addr) (t : Nat) (m : Int), vs = [.ref st, .int m] ∧ DU H st c r t ∧ t + 3 < 900000 ∧ 0 ≤ m ∧ m ≤ 10 ^ 12 ∧
  ∀ (H' : Hp) (d : Int), 0 ≤ d → d ≤ m → DU H' st c r (t + 3) → Ext st r H H' → Q (.int d) H'
set_option maxHeartbeats 4000000 in
theorem ok_Am {f fDr : Addr} {fd fdDr : FuncData} (F : Fun K "_law_amount" "_law_amount" sAm f fd)
    (FDr : Fun K "_law_draw" "_law_draw" sDr fDr fdDr) (bDr : Binds K fdDr ["_law_deck_here", "_law_many"] []) (gDr : mg "_law_draw" = some (.ref fDr)) (GDr : FnOk P w K mg base CX0 1 fDr fdDr ["_law_deck_here", "_law_many"] spDraw)
    (m_min : mg "min" = none) :
    FnOk P w K mg base CX0 2 f fd ["_law_deck_here", "_law_most"] spAm := by
  refine F.ok scAm (fun vs H Q E h => ?_) (fun cdv A outer s H vs Q E hr h => ?_)
  · obtain ⟨st, c, r, t, m, rfl, _⟩ := h; rfl
  · obtain ⟨st, c, r, t, m, rfl, hd, ht, hm, hm2, q⟩ := h
    refine ⟨_, pss_cons (ps_set (i := 2) scAm.nd rfl (.inl rfl) (pe_call GDr (hr.mono (by omega)) (by rfl) gDr FDr.kp bDr .nil pass0 (pa_cons (pv 0) (pa_cons (pe_op op_add (pe_callB (call_min2 rfl) (by rfl) m_min (by decide +kernel) (pa_cons (pv 1) (pa_cons (pe_int) pa_nil))) (pe_int)) pa_nil))))
      (pss_one (ps_ret (pe_ix ix_list (pe_lst (pa_cons (pv 2) (pa_cons (pe_op op_sub (pv 1) (pv 2)) (pa_cons (pe_call GDr (hr.mono (by omega)) (by rfl) gDr FDr.kp bDr .nil pass0 (pa_cons (pv 0) (pa_cons (pe_op op_add (pv 1) (pe_int)) pa_nil))) pa_nil)))) (pe_call GDr (hr.mono (by omega)) (by rfl) gDr FDr.kp bDr .nil pass0 (pa_cons (pv 0) (pa_cons (pe_int) pa_nil))) (fun _ _ => rfl)))), ?_⟩
    refine ⟨.ref st, rfl, .int m, rfl, _, _, rfl, _, _, rfl, rfl, st, c, r, t, _, rfl, hd, by omega, by split <;> omega, by split <;> omega, fun H1 f h10 h11 D1 X1 => ?_⟩
    have hf : f ≤ m := by split at h11 <;> omega
    refine ⟨.int f, rfl, .int m, rfl, .int f, rfl, _, _, rfl, rfl, .ref st, rfl, .int m, rfl, _, _, rfl, rfl, st, c, r, t + 1, _, rfl, D1, by omega, by omega, by omega, fun H2 g h20 h21 D2 X2 => ⟨(show (3 : Nat) ≤ sizeLine by decide), fun L nL => ?_⟩⟩
    have oL := D2.off nL
    refine ⟨.ref st, rfl, st, c, r, t + 2, 3, rfl, D2.new nL, by omega, by decide, by decide, fun H3 k h30 h31 D3 X3 => ?_⟩
    have eL := X3 _ _ (upd_same (a := L) (H := H2)) oL.1 oL.2.2
    have x3 := ((X1.trans X2).trans (Ext.of (sameNew nL))).trans X3
    obtain ⟨d, hat, d0, d1⟩ : ∃ d : Int, atI [V.int f, V.int (m - f), V.int g] k = some (.int d) ∧ 0 ≤ d ∧ d ≤ m := by
      obtain h | h | h : k = 0 ∨ k = 1 ∨ k = 2 := by omega
      · exact ⟨f, by rw [h]; rfl, h10, hf⟩
      · exact ⟨m - f, by rw [h]; rfl, by omega, by omega⟩
      · exact ⟨g, by rw [h]; rfl, h20, by omega⟩
    exact ⟨L, _, _, _, rfl, rfl, SqL.of eL, hat, q _ _ d0 d1 D3 x3⟩
def spLi (K : PySem.W.Frag) : Sp := fun vs H Q _ => ∃ (st c r : Addr) (t n : Nat), vs = [.ref st, .int n] ∧ DU H st c r t ∧ t + 100 < 900000 ∧ 1 ≤ n ∧ n ≤ 6 ∧
  ∀ (H' : Hp) (p : Addr) (t' : Nat) (ps : List Int), DU H' st c r t' → t' ≤ t + 20 → Ext st r H H' → SqT K H' p (ps.map V.int) → ps.Nodup → (∀ p ∈ ps, 0 ≤ p ∧ p < (n : Int)) → ps.length ≤ 6 → Q (.ref p) H'
set_option maxHeartbeats 4000000 in
theorem ok_Li {f fDr fMx : Addr} {fd fdDr fdMx : FuncData} (F : Fun K "_law_lines" "_law_lines" sLi f fd)
    (FDr : Fun K "_law_draw" "_law_draw" sDr fDr fdDr) (bDr : Binds K fdDr ["_law_deck_here", "_law_many"] []) (gDr : mg "_law_draw" = some (.ref fDr)) (GDr : FnOk P w K mg base CX0 1 fDr fdDr ["_law_deck_here", "_law_many"] spDraw)
    (FMx : Fun K "_law_mixed" "_law_mixed" sMx fMx fdMx) (bMx : Binds K fdMx ["_law_deck_here", "_law_items"] []) (gMx : mg "_law_mixed" = some (.ref fMx)) (GMx : FnOk P w K mg base CX0 2 fMx fdMx ["_law_deck_here", "_law_items"] (spMx K))
    (m_max : mg "max" = none) (m_list : mg "list" = none) (m_range : mg "range" = none) (m_tuple : mg "tuple" = none) :
    FnOk P w K mg base CX0 3 f fd ["_law_deck_here", "_law_posts"] (spLi K) := by
  refine F.ok scLi (fun vs H Q E h => ?_) (fun cdv A outer s H vs Q E hr h => ?_)
  · obtain ⟨st, c, r, t, n, rfl, _⟩ := h; rfl
  · obtain ⟨st, c, r, t, n, rfl, hd, ht, hn1, hn6, q⟩ := h
    refine ⟨_, pss_cons (ps_set (i := 2) scLi.nd rfl (.inl rfl) (pe_callB (call_max2 rfl) (by rfl) m_max (by decide +kernel) (pa_cons (pe_int) (pa_cons (pe_op op_fdiv (pv 1) (pe_int)) pa_nil))))
      (pss_cons (ps_if (pt_cmpR op_eq (pe_call GDr (hr.mono (by omega)) (by rfl) gDr FDr.kp bDr .nil pass0 (pa_cons (pv 0) (pa_cons (pe_int) pa_nil))) (pe_int) (nomark _))
        (pss_one (ps_ret (pe_tup (pa_nil)))) pss_nil)
      (pss_cons (ps_set (i := 3) scLi.nd rfl (.inl rfl) (pe_slice sl_list (pe_call GMx (hr.mono (by omega)) (by rfl) gMx FMx.kp bMx .nil pass0 (pa_cons (pv 0) (pa_cons (pe_listRg rfl (by rfl) m_list (prg_2 (by rfl) m_range (pv 2) (pv 1))) pa_nil))) po_none (po_some (pe_call GDr (hr.mono (by omega)) (by rfl) gDr FDr.kp bDr .nil pass0 (pa_cons (pv 0) (pa_cons (pe_op op_add (pe_op op_sub (pv 1) (pv 2)) (pe_int)) pa_nil))))))
      (pss_cons (ps_set (i := 4) scLi.nd rfl (.inl rfl) (pe_call GMx (hr.mono (by omega)) (by rfl) gMx FMx.kp bMx .nil pass0 (pa_cons (pv 0) (pa_cons (pe_listRg rfl (by rfl) m_list (prg_1 (by rfl) m_range (pv 2))) pa_nil))))
      (pss_cons (ps_set (i := 5) scLi.nd rfl (.inl rfl) (pe_slice sl_list (pv 4) (po_some (pe_int)) (po_some (pe_op op_add (pe_int) (pe_call GDr (hr.mono (by omega)) (by rfl) gDr FDr.kp bDr .nil pass0 (pa_cons (pv 0) (pa_cons (pe_int) pa_nil)))))))
      (pss_one (ps_ret (pe_callTy call_tupQ (by rfl) m_tuple (by decide +kernel) (pa_cons (pe_op op_cat (pe_op op_cat (pe_slice sl_list (pv 4) po_none (po_some (pe_int))) (pv 5)) (pv 3)) pa_nil)))))))), ?_⟩
    obtain ⟨f, hf, f1, f2⟩ : ∃ f : Nat, (if (1 : Int) < (n : Int) / 2 then (n : Int) / 2 else 1) = (f : Int) ∧ 1 ≤ f ∧ f ≤ n := ⟨(if (1 : Int) < (n : Int) / 2 then (n : Int) / 2 else 1).toNat, by split <;> omega, by split <;> omega, by split <;> omega⟩
    refine ⟨.int n, rfl, _, _, rfl, rfl, ⟨by decide, by decide⟩, _, _, rfl, ?_⟩
    dsimp only
    rw [hf]
    refine ⟨.ref st, rfl, st, c, r, t, 12, rfl, hd, by omega, by decide, by decide, fun H1 e h10 h11 D1 X1 => ⟨rfl, _, rfl, ?_⟩⟩
    by_cases he : e = 0
    · rw [show decide (V.int e = V.int 0) = true from decide_eq_true (by rw [he])]
      refine iteT ⟨Nat.zero_le _, fun p np => q _ p (t + 1) [] (D1.new np) (by omega) (X1.trans (Ext.of (sameNew np))) (SqT.of upd_same) (by simp) (by simp) (by simp)⟩
    rw [show decide (V.int e = V.int 0) = false from decide_eq_false (fun z => he (V.int.inj z))]
    refine iteF ?_
    refine ⟨.ref st, rfl, .int f, rfl, .int n, rfl, _, _, rfl, rfl, RgOk.of_le (by omega) (by omega) (by omega) (by omega), fun La nLa => ?_⟩
    refine ⟨st, c, r, La, t + 1, rng f n, rfl, D1.new nLa, by omega, by rw [upd_same, rgV_rng], by rw [rng_len]; omega, fun H2 Ra ra hra hrn hrl eRa a1 a2 a3 nRa D2 X2 => ?_⟩
    rw [rng_len] at hrl D2
    refine ⟨.ref st, rfl, .int n, rfl, .int f, rfl, _, _, rfl, rfl, _, _, rfl, rfl, st, c, r, _, _, rfl, D2, by omega, by omega, by omega, fun H3 k h30 h31 D3 X3 => ⟨k, rfl, Ra, _, rfl, SqL.of (X3 _ _ eRa a1 a3), fun W nW => ?_⟩⟩
    obtain ⟨kn, rfl⟩ : ∃ kn : Nat, k = kn := ⟨k.toNat, by omega⟩
    rw [show cutV (ra.map V.int) none (some (kn : Int)) = (ra.take kn).map V.int by rw [List.map_take]; exact cut_to _ kn]
    have oW := D3.off nW
    have D4 := D3.new nW (o := .lst ((ra.take kn).map V.int))
    have x4 := (((X1.trans (Ext.of (sameNew nLa))).trans X2).trans X3).trans (Ext.of (sameNew (o := .lst ((ra.take kn).map V.int)) nW))
    have eW : (upd H3 W (.lst ((ra.take kn).map V.int))) W = some (.lst ((ra.take kn).map V.int)) := upd_same
    generalize upd H3 W (.lst ((ra.take kn).map V.int)) = H4 at D4 x4 eW ⊢
    refine ⟨.ref st, rfl, .int f, rfl, f, rfl, RgOk.of_le (by omega) (by omega) (by omega) (by omega), fun Lb nLb => ?_⟩
    refine ⟨st, c, r, Lb, _, upTo f, rfl, D4.new nLb, by omega, by rw [upd_same, rgV_upTo], by rw [upTo_len]; omega, fun H5 Or os hos hon hol eOr b1 b2 b3 nOr D5 X5 => ?_⟩
    rw [upTo_len] at hol D5
    have x5 := (x4.trans (Ext.of (sameNew nLb))).trans X5
    have eW5 := X5 _ _ ((sameNew nLb) _ _ eW) oW.1 oW.2.2
    refine ⟨.ref Or, rfl, 1, rfl, .ref st, rfl, st, c, r, _, 3, rfl, D5, by omega, by decide, by decide, fun H6 m h60 h61 D6 X6 => ⟨_, _, rfl, rfl, _, rfl, Or, _, rfl, SqL.of (X6 _ _ eOr b1 b3), fun Bw nBw => ?_⟩⟩
    have eOr6 := X6 _ _ eOr b1 b3
    have eW6 := X6 _ _ eW5 oW.1 oW.2.2
    obtain ⟨mn, rfl⟩ : ∃ mn : Nat, m = mn := ⟨m.toNat, by omega⟩
    dsimp only
    rw [show (1 : Int) + (mn : Int) = ((1 + mn : Nat) : Int) by omega, cut_mid]
    have sB := sameNew (o := .lst (((os.drop 1).take mn).map V.int)) nBw
    have D7 := D6.new nBw (o := .lst (((os.drop 1).take mn).map V.int))
    have eB : (upd H6 Bw (.lst (((os.drop 1).take mn).map V.int))) Bw = some (.lst (((os.drop 1).take mn).map V.int)) := upd_same
    have eOr7 := sB _ _ eOr6
    have eW7 := sB _ _ eW6
    have x7 := (x5.trans X6).trans (Ext.of sB)
    generalize upd H6 Bw (.lst (((os.drop 1).take mn).map V.int)) = H7 at D7 eB eOr7 eW7 x7 ⊢
    refine ⟨.ref Or, rfl, 1, rfl, Or, _, rfl, SqL.of eOr7, fun P1 nP1 => ?_⟩
    rw [show cutV (os.map V.int) none (some 1) = (os.take 1).map V.int by rw [List.map_take]; exact cut_to _ 1]
    have s1 := sameNew (o := .lst ((os.take 1).map V.int)) nP1
    have sz := small (n := 100) (by decide)
    refine ⟨.ref Bw, rfl, P1, Bw, _, _, rfl, rfl, upd_same, s1 _ _ eB, by rw [List.length_map, List.length_map, List.length_take, List.length_take, List.length_drop]; omega, fun P2 nP2 => ?_⟩
    rw [← List.map_append]
    have s2 := s1.trans (sameNew (o := .lst ((os.take 1 ++ (os.drop 1).take mn).map V.int)) nP2)
    refine ⟨.ref W, rfl, P2, W, _, _, rfl, rfl, upd_same, s2 _ _ eW7, by rw [List.length_map, List.length_map, List.length_append, List.length_take, List.length_take, List.length_take, List.length_drop]; omega, fun P3 nP3 => ?_⟩
    rw [← List.map_append]
    have s3 := s2.trans (sameNew (o := .lst (((os.take 1 ++ (os.drop 1).take mn) ++ ra.take kn).map V.int)) nP3)
    refine ⟨P3, _, rfl, .inl ⟨SqL.of upd_same, fun T nT => ?_⟩⟩
    have s4 := s3.trans (sameNew (o := .tup (((os.take 1 ++ (os.drop 1).take mn) ++ ra.take kn).map V.int)) nT)
    have hon := hon (upTo_nodup f)
    have hrn := hrn (rng_nodup f n)
    have hsub : ∀ x ∈ os.take 1 ++ (os.drop 1).take mn, x ∈ os := fun x hx => (List.mem_append.mp hx).elim List.mem_of_mem_take (fun h => List.mem_of_mem_drop (List.mem_of_mem_take h))
    have hpre : (os.take 1 ++ (os.drop 1).take mn) = os.take (1 + mn) := by rw [List.take_add]
    refine q _ T _ ((os.take 1 ++ (os.drop 1).take mn) ++ ra.take kn) (D7.same s4) (by omega) (x7.trans (Ext.of s4)) (SqT.of upd_same) ?_ (fun p hp => ?_) ?_
    · rw [List.nodup_append]
      refine ⟨?_, (List.take_sublist kn ra).nodup hrn, fun a ha b hb e => ?_⟩
      · rw [hpre]; exact (List.take_sublist _ os).nodup hon
      · have h1 := upTo_mem (hos a (hsub a ha))
        have h2 := rng_mem (hra b (List.mem_of_mem_take hb))
        omega
    · rcases List.mem_append.mp hp with h | h
      · have := upTo_mem (hos p (hsub p h)); omega
      · have := rng_mem (hra p (List.mem_of_mem_take h)); omega
    · rw [List.length_append, List.length_append, List.length_take, List.length_take, List.length_take, List.length_drop]; omega
end
end Pv

namespace Pv
open PySem PySem.Spec PyProof.Rows L2
abbrev sSl : Stmt := topS 17
theorem scSl : FnScope ["_law_deck_here", "_law_posts", "_law_capacities", "_law_shared", "_law_groups", "_law_group", "_law_order", "_law_size", "_law_post"] ["_law_deck_here"] (defScope sSl) := ⟨rfl, rfl, rfl, by decide +kernel, rfl, by decide +kernel, by decide +kernel⟩
theorem filt_ne (sh : Int) (os : List Int) : os.filterMap (fun x => if x = sh then none else some (V.int x)) = (os.filter (fun x => x != sh)).map V.int := by
  induction os with
  | nil => rfl
  | cons x l ih =>
    rw [List.filterMap_cons, List.filter_cons]
    by_cases e : x = sh
    · rw [if_pos e, if_neg (by simp [e])]; exact ih
    · rw [if_neg e, if_pos (by simp [e])]; dsimp only; rw [List.map_cons, ← ih]
theorem nodup_le : ∀ {n : Nat} {ms : List Int}, ms.Nodup → (∀ x ∈ ms, 0 ≤ x ∧ x < (n : Int)) → ms.length ≤ n := by
  intro n
  induction n with
  | zero =>
    intro ms _ hb
    cases ms with
    | nil => simp
    | cons x ms => have := hb x (List.mem_cons_self ..); omega
  | succ n ih =>
    intro ms hnd hb
    have h1 := ih (ms := ms.erase (n : Int)) (hnd.erase _) (fun x hx => by
      have := (List.Nodup.mem_erase_iff hnd).mp hx
      have := hb x this.2
      omega)
    have h2 := List.length_erase (a := (n : Int)) (l := ms)
    split at h2 <;> omega
section
variable {P : Program} {w : World} {K : PySem.W.Frag} {mg : Str → Option Value} {base : Heap}
def spSl (K : PySem.W.Frag) : Sp := fun vs H Q _ => ∃ (st c r : Addr) (t : Nat), vs = [.ref st] ∧ DU H st c r t ∧ t + 200 < 900000 ∧
  ∀ (H' : Hp) (p : Addr) (t' : Nat) (cs : List Int) (gs : List Gp), DU H' st c r t' → t' ≤ t + 100 → Ext st r H H' → Dp K H' (.ref p) (dInst cs gs) → InsOk cs gs → cs.length ≤ 3 → gs.length ≤ 3 → (∀ c ∈ cs, c ≤ 3) → (∀ g ∈ gs, g.1.length ≤ 3 ∧ g.2 ≤ 3) → (∀ g ∈ gs, g.1.Nodup) → Q (.ref p) H'
set_option maxHeartbeats 8000000 in
theorem ok_Sl {f fDr fMx : Addr} {fd fdDr fdMx : FuncData} (F : Fun K "_law_small" "_law_small" sSl f fd)
    (FDr : Fun K "_law_draw" "_law_draw" sDr fDr fdDr) (bDr : Binds K fdDr ["_law_deck_here", "_law_many"] []) (gDr : mg "_law_draw" = some (.ref fDr)) (GDr : FnOk P w K mg base CX0 1 fDr fdDr ["_law_deck_here", "_law_many"] spDraw)
    (FMx : Fun K "_law_mixed" "_law_mixed" sMx fMx fdMx) (bMx : Binds K fdMx ["_law_deck_here", "_law_items"] []) (gMx : mg "_law_mixed" = some (.ref fMx)) (GMx : FnOk P w K mg base CX0 2 fMx fdMx ["_law_deck_here", "_law_items"] (spMx K))
    (m_range : mg "range" = none) (m_tuple : mg "tuple" = none) (m_list : mg "list" = none) :
    FnOk P w K mg base CX0 3 f fd ["_law_deck_here"] (spSl K) := by
  refine F.ok scSl (fun vs H Q E h => ?_) (fun cdv A outer s H vs Q E hr h => ?_)
  · obtain ⟨st, c, r, t, rfl, _⟩ := h; rfl
  · obtain ⟨st, c, r, t, rfl, hd, ht, q⟩ := h
    refine ⟨_, pss_cons (ps_set (i := 1) scSl.nd rfl (.inl rfl) (pe_op op_add (pe_int) (pe_call GDr (hr.mono (by omega)) (by rfl) gDr FDr.kp bDr .nil pass0 (pa_cons (pv 0) (pa_cons (pe_int) pa_nil)))))
      (pss_cons (ps_set (i := 2) scSl.nd rfl (.inl rfl) (pe_callTy call_tupQ (by rfl) m_tuple (by decide +kernel) (pa_cons (pe_lc (own := [("_law_post", 8)]) (g := gName 8) (tt := tYes) (te := tOp (rI0 fun i j => .int (i + j)) (tC (.int 1)) (tCall spDraw [] E0 (tCons (tVar 0) (tCons (tOp (rIxL K) (tLst (tCons (tC (.int 2)) (tCons (tC (.int 3)) tNil))) (tCall spDraw [] E0 (tCons (tVar 0) (tCons (tC (.int 2)) tNil)))) tNil)))) rfl scSl.nd (pi_range1 (by rfl) m_range (pa_cons (pv 1) pa_nil)) (blkOk_by (N := ["_law_deck_here", "_law_posts", "_law_capacities", "_law_shared", "_law_groups", "_law_group", "_law_order", "_law_size", "_law_post"]) (sc := defScope sSl) (by decide +kernel)) (fun _ _ _ _ _ => pg_name (i := 8) scSl.nd rfl (.inl rfl)) (fun _ _ _ _ _ => pts_nil) (fun _ _ _ _ _ => pe_op op_add (pe_int) (pe_call GDr (hr.mono (by omega)) (by rfl) gDr FDr.kp bDr .nil pass0 (pa_cons (pv 0) (pa_cons (pe_ix ix_list (pe_lst (pa_cons (pe_int) (pa_cons (pe_int) pa_nil))) (pe_call GDr (hr.mono (by omega)) (by rfl) gDr FDr.kp bDr .nil pass0 (pa_cons (pv 0) (pa_cons (pe_int) pa_nil))) (fun _ _ => rfl)) pa_nil))))) pa_nil)))
      (pss_cons (ps_set (i := 3) scSl.nd rfl (.inr rfl) (pe_call GDr (hr.mono (by omega)) (by rfl) gDr FDr.kp bDr .nil pass0 (pa_cons (pv 0) (pa_cons (pv 1) pa_nil))))
      (pss_cons (ps_set (i := 4) scSl.nd rfl (.inl rfl) (pe_lst (pa_nil)))
      (pss_cons (ps_for PassesOwn.never rfl (pi_range1 (by rfl) m_range (pa_cons (pe_op op_add (pe_int) (pe_call GDr (hr.mono (by omega)) (by rfl) gDr FDr.kp bDr .nil pass0 (pa_cons (pv 0) (pa_cons (pe_int) pa_nil)))) pa_nil)) (pg_name (i := 5) scSl.nd rfl (.inl rfl))
        (pss_cons (ps_set (i := 6) scSl.nd rfl (.inl rfl) (pe_call GMx (hr.mono (by omega)) (by rfl) gMx FMx.kp bMx .nil pass0 (pa_cons (pv 0) (pa_cons (pe_listRg rfl (by rfl) m_list (prg_1 (by rfl) m_range (pv 1))) pa_nil))))
        (pss_cons (ps_if (pt_cmpR op_gt (pe_call GDr (hr.mono (by omega)) (by rfl) gDr FDr.kp bDr .nil pass0 (pa_cons (pv 0) (pa_cons (pe_int) pa_nil))) (pe_int) (nomark _))
          (pss_one (ps_set (i := 6) scSl.nd rfl (.inl rfl) (pe_op op_cat (pe_lst (pa_cons (pv 3) pa_nil)) (pe_lc (own := [("_law_post", 8)]) (g := gName 8) (tt := tTest (tOp rNe (tVar 8) (tVar 3))) (te := tVar 8) rfl scSl.nd (pi_list (pv 6)) (blkOk_by (N := ["_law_deck_here", "_law_posts", "_law_capacities", "_law_shared", "_law_groups", "_law_group", "_law_order", "_law_size", "_law_post"]) (sc := defScope sSl) (by decide +kernel)) (fun _ _ _ _ _ => pg_name (i := 8) scSl.nd rfl (.inl rfl)) (fun _ _ _ _ _ => pts_one (pt_cmpR op_ne (pv 8) (pv 3) (nomark _))) (fun _ _ _ _ _ => pv 8))))) pss_nil)
        (pss_cons (ps_set (i := 7) scSl.nd rfl (.inl rfl) (pe_ix ix_list (pe_lst (pa_cons (pv 1) (pa_cons (pv 1) (pa_cons (pe_call GDr (hr.mono (by omega)) (by rfl) gDr FDr.kp bDr .nil pass0 (pa_cons (pv 0) (pa_cons (pe_op op_add (pv 1) (pe_int)) pa_nil))) pa_nil)))) (pe_call GDr (hr.mono (by omega)) (by rfl) gDr FDr.kp bDr .nil pass0 (pa_cons (pv 0) (pa_cons (pe_int) pa_nil))) (fun _ _ => rfl)))
        (pss_one (ps_expr (pe_bm PySem.F.plainAttrs_list PySem.F.slot_list_append PySem.F.type_list_append mt_append (pv 4) (pa_cons (pe_tup (pa_cons (pe_callTy call_tupQ (by rfl) m_tuple (by decide +kernel) (pa_cons (pe_slice sl_list (pv 6) po_none (po_some (pv 7))) pa_nil)) (pa_cons (pe_op op_add (pe_int) (pe_call GDr (hr.mono (by omega)) (by rfl) gDr FDr.kp bDr .nil pass0 (pa_cons (pv 0) (pa_cons (pe_ix ix_list (pe_lst (pa_cons (pe_int) (pa_cons (pe_int) pa_nil))) (pe_call GDr (hr.mono (by omega)) (by rfl) gDr FDr.kp bDr .nil pass0 (pa_cons (pv 0) (pa_cons (pe_int) pa_nil))) (fun _ _ => rfl)) pa_nil)))) pa_nil))) pa_nil))))))))
      (pss_one (ps_ret (pe_tup (pa_cons (pv 2) (pa_cons (pe_callTy call_tupQ (by rfl) m_tuple (by decide +kernel) (pa_cons (pv 4) pa_nil)) pa_nil))))))))), ?_⟩
    have sz := small (n := 100) (by decide)
    have two : (2 : Nat) ≤ sizeLine := by decide
    refine ⟨.ref st, rfl, st, c, r, t, 3, rfl, hd, by omega, by decide, by decide, fun H1 d1 h10 h11 D1 X1 => ⟨_, _, rfl, rfl, ?_⟩⟩
    obtain ⟨n, hn⟩ : ∃ n : Nat, 1 + d1 = (n : Int) := ⟨(1 + d1).toNat, by omega⟩
    have hn6 : 1 ≤ n ∧ n ≤ 3 := by omega
    dsimp only
    rw [hn]
    refine ⟨.int n, rfl, n, rfl, by omega, by omega, fun D nD => lc_it (walk_range (lo := 0) (n := ((n : Int)).toNat)) (fun j Hj => ∃ (tj : Nat) (cl : List Int), DU Hj st c r tj ∧ tj ≤ t + 1 + 2 * j ∧ Ext st r H Hj ∧ Hj D = some (.lst (cl.map V.int)) ∧ cl.length = j ∧ ∀ x ∈ cl, 1 ≤ x ∧ x ≤ 3)
      ⟨t + 1, [], D1.new nD, by omega, X1.trans (Ext.of (sameNew nD)), upd_same, rfl, fun x h => by simp at h⟩ (fun _ _ _ _ => trivial) ?_ ?_⟩
    · rintro j x Hk Hj hj ⟨tj, cl, Dj, htj, xj, eDj, lcl, bcl⟩ ⟨rfl, rfl⟩
      have oD := D1.off nD
      refine ⟨rfl, .ref st, rfl, two, fun L nL => ?_⟩
      have oL := Dj.off nL
      refine ⟨.ref st, rfl, st, c, r, tj, 2, rfl, Dj.new nL, by omega, by decide, by decide, fun Ha z hz0 hz1 Da Xa => ?_⟩
      have eL := Xa _ _ (upd_same (a := L) (H := Hj) (o := .lst [.int 2, .int 3])) oL.1 oL.2.2
      obtain ⟨m, hat, m1, m2⟩ : ∃ m : Int, atI [V.int 2, V.int 3] z = some (.int m) ∧ 0 < m ∧ m ≤ 3 := by
        obtain h | h : z = 0 ∨ z = 1 := by omega
        · exact ⟨2, by rw [h]; rfl, by decide, by decide⟩
        · exact ⟨3, by rw [h]; rfl, by decide, by decide⟩
      refine ⟨L, _, _, _, rfl, rfl, SqL.of eL, hat, st, c, r, tj + 1, m, rfl, Da, by omega, m1, by omega, fun Hb y hy0 hy1 Db Xb => ⟨_, _, rfl, rfl, ?_⟩⟩
      have xjb := ((Ext.of (sameNew nL)).trans Xa).trans Xb
      have eDb := xjb _ _ eDj oD.1 oD.2.2
      refine ⟨_, eDb, small (by rw [List.length_map]; omega), tj + 2, cl ++ [1 + y], Db.put oD, by omega, ExtPut (xj.trans xjb) (D1.nil X1 nD), by rw [upd_same, List.map_append]; rfl, by rw [List.length_append]; simp only [List.length_cons, List.length_nil]; omega, fun x hx => ?_⟩
      rcases List.mem_append.mp hx with h | h
      · exact bcl x h
      · simp at h; omega
    rintro H2 ⟨t2, cs, D2, ht2, x2, eD2, lcs, bcs⟩
    have lcs : cs.length = n := by omega
    refine ⟨D, _, rfl, .inl ⟨SqL.of eD2, fun Tc nTc => ?_⟩⟩
    have oTc := D2.off nTc
    have D3 := D2.new nTc (o := .tup (cs.map V.int))
    have x3 := x2.trans (Ext.of (sameNew (o := .tup (cs.map V.int)) nTc))
    have hTc : SqT K (upd H2 Tc (.tup (cs.map V.int))) Tc (cs.map V.int) := SqT.of upd_same
    generalize upd H2 Tc (.tup (cs.map V.int)) = H3 at D3 x3 hTc ⊢
    refine ⟨.ref st, rfl, .int n, rfl, st, c, r, t2, _, rfl, D3, by omega, by omega, by omega, fun H4 sh h40 h41 D4 X4 => ?_⟩
    refine ⟨Nat.zero_le _, fun Rw nRw => ?_⟩
    have oRw := D4.off nRw
    have D5 := D4.new nRw (o := .lst [])
    have x35 : Ext st r H3 (upd H4 Rw (.lst [])) := X4.trans (Ext.of (sameNew nRw))
    have fRw : H Rw = none := D4.nil (x3.trans X4) nRw
    have fRw3 : H3 Rw = none := D4.nil X4 nRw
    have eR5 : (upd H4 Rw (.lst [])) Rw = some (.lst []) := upd_same
    generalize upd H4 Rw (.lst []) = H5 at D5 x35 eR5 ⊢
    refine ⟨.ref st, rfl, st, c, r, t2 + 1, 3, rfl, D5, by omega, by decide, by decide, fun H6 gm h60 h61 D6 X6 => ⟨_, _, rfl, rfl, ?_⟩⟩
    refine ⟨1 + gm, rfl, by omega, by omega, for_it (walk_range (lo := 0) (n := (1 + gm).toNat))
      (fun i σ Hi => ∃ (y5 y6 y7 : Option V) (ti : Nat) (vs : List V) (gs : List Gp), σ = [some (.ref st), some (.int n), some (.ref Tc), some (.int sh), some (.ref Rw), y5, y6, y7, none] ∧ DU Hi st c r ti ∧ ti ≤ t2 + 2 + 20 * i ∧ Ext st r H3 Hi ∧ Hi Rw = some (.lst vs) ∧ DpAll K Hi vs (gs.map dGrp) ∧ gs.length = i ∧ ∀ g ∈ gs, g.1.length ≤ 3 ∧ (∀ p ∈ g.1, 0 ≤ p ∧ p < (n : Int)) ∧ (1 ≤ g.2 ∧ g.2 ≤ 3) ∧ g.1.Nodup)
      ⟨none, none, none, t2 + 2, [], [], rfl, D6, by omega, x35.trans X6, X6 _ _ eR5 oRw.1 oRw.2.2, .nil, rfl, fun g h => by simp at h⟩ (fun _ _ _ _ _ => trivial) ?_ ?_⟩
    · rintro i v σ Hz Hi hlt ⟨y5, y6, y7, ti, vs, gs, rfl, Di, hti, xi, eRi, hvs, lgs, bgs⟩ ⟨rfl, rfl⟩
      have hi3 : i < 3 := by omega
      have lvs : vs.length = i := by rw [DpAll.len hvs, List.length_map, lgs]
      refine ⟨.ref st, rfl, .int n, rfl, n, rfl, RgOk.of_le (by omega) (by omega) (by omega) (by omega), fun Lr nLr => ?_⟩
      refine ⟨st, c, r, Lr, ti, upTo n, rfl, Di.new nLr, by omega, by rw [upd_same, rgV_upTo], by rw [upTo_len]; omega, fun Ha Om os hos hon hol eOm a1 a2 a3 nOm Da Xa => ?_⟩
      rw [upTo_len] at hol Da
      have xia : Ext st r Hi Ha := (Ext.of (sameNew nLr)).trans Xa
      have hob : ∀ x ∈ os, 0 ≤ x ∧ x < (n : Int) := fun x hx => upTo_mem (hos x hx)
      have hond := hon (upTo_nodup n)
      dsimp only
      refine (id ?_ : tSeq (tIfS _ _ _) _ _ _ _)
      refine seq_with (fun σ Hx => ∃ (Ow : Addr) (ow : List Int), σ = [some (.ref st), some (.int n), some (.ref Tc), some (.int sh), some (.ref Rw), some (.int (0 + (i : Nat))), some (.ref Ow), y7, none] ∧ DU Hx st c r (ti + n + 1) ∧ Ext st r Hi Hx ∧ Hx Ow = some (.lst (ow.map V.int)) ∧ ow.length ≤ 4 ∧ (∀ x ∈ ow, 0 ≤ x ∧ x < (n : Int)) ∧ ow.Nodup ∧ Ow ≠ st ∧ Ow ≠ r) (fun σ Hx h => ?_) (fun rest => ?_)
      · obtain ⟨Ow, ow, rfl, Dx, xix, eOw, low, bow, ndow, o1, o2⟩ := h
        refine ⟨.int n, rfl, .int n, rfl, .ref st, rfl, .int n, rfl, _, _, rfl, rfl, st, c, r, _, _, rfl, Dx, by omega, by omega, by omega, fun Hc k hk0 hk1 Dc Xc => ⟨(show (3 : Nat) ≤ sizeLine by decide), fun L nL => ?_⟩⟩
        have oL := Dc.off nL
        refine ⟨.ref st, rfl, st, c, r, _, 3, rfl, Dc.new nL, by omega, by decide, by decide, fun Hd z hz0 hz1 Dd Xd => ?_⟩
        have eL := Xd _ _ (upd_same (a := L) (H := Hc) (o := .lst [.int n, .int n, .int k])) oL.1 oL.2.2
        obtain ⟨m, hat⟩ : ∃ m : Nat, atI [V.int n, V.int n, V.int k] z = some (.int m) := by
          obtain h | h | h : z = 0 ∨ z = 1 ∨ z = 2 := by omega
          · exact ⟨n, by rw [h]; rfl⟩
          · exact ⟨n, by rw [h]; rfl⟩
          · exact ⟨k.toNat, by rw [h, Int.toNat_of_nonneg hk0]; rfl⟩
        refine ⟨L, _, _, _, rfl, rfl, SqL.of eL, hat, ?_⟩
        have xxd := (Xc.trans (Ext.of (sameNew (o := .lst [.int n, .int n, .int k]) nL))).trans Xd
        have xid := xix.trans xxd
        have eRd := xid _ _ eRi oRw.1 oRw.2.2
        have eOd := xxd _ _ eOw o1 o2
        refine ⟨.ref Rw, rfl, .inl ⟨rfl, _, SqL.of eRd⟩, .ref Ow, rfl, .int m, rfl, m, rfl, Ow, _, rfl, SqL.of eOd, fun W nW => ?_⟩
        rw [show cutV (ow.map V.int) none (some (m : Int)) = (ow.take m).map V.int by rw [List.map_take]; exact cut_to _ m]
        have sW := sameNew (o := .lst ((ow.take m).map V.int)) nW
        refine ⟨W, _, rfl, .inl ⟨SqL.of upd_same, fun Tg nTg => ?_⟩⟩
        have sTg := sW.trans (sameNew (o := .tup ((ow.take m).map V.int)) nTg)
        have De := Dd.same sTg
        have hTg : SqT K (upd (upd Hd W (.lst ((ow.take m).map V.int))) Tg (.tup ((ow.take m).map V.int))) Tg ((ow.take m).map V.int) := SqT.of upd_same
        generalize upd (upd Hd W (.lst ((ow.take m).map V.int))) Tg (.tup ((ow.take m).map V.int)) = He at sTg De hTg ⊢
        refine ⟨.ref st, rfl, two, fun L2 nL2 => ?_⟩
        have oL2 := De.off nL2
        refine ⟨.ref st, rfl, st, c, r, _, 2, rfl, De.new nL2, by omega, by decide, by decide, fun Hf z2 hf0 hf1 Df Xf => ?_⟩
        have eL2 := Xf _ _ (upd_same (a := L2) (H := He) (o := .lst [.int 2, .int 3])) oL2.1 oL2.2.2
        obtain ⟨m2, hat2, m21, m22⟩ : ∃ m : Int, atI [V.int 2, V.int 3] z2 = some (.int m) ∧ 0 < m ∧ m ≤ 3 := by
          obtain h | h : z2 = 0 ∨ z2 = 1 := by omega
          · exact ⟨2, by rw [h]; rfl, by decide, by decide⟩
          · exact ⟨3, by rw [h]; rfl, by decide, by decide⟩
        refine ⟨L2, _, _, _, rfl, rfl, SqL.of eL2, hat2, st, c, r, _, m2, rfl, Df, by omega, m21, by omega, fun Hg y hy0 hy1 Dg Xg => ⟨_, _, rfl, rfl, two, fun Tp nTp => ?_⟩⟩
        have xeg := ((Ext.of (sameNew (o := .lst [.int 2, .int 3]) nL2)).trans Xf).trans Xg
        have sTp := sameNew (o := .tup [.ref Tg, .int (1 + y)]) nTp
        have xih := ((xid.trans (Ext.of sTg)).trans xeg).trans (Ext.of sTp)
        have Dh := Dg.new nTp (o := .tup [.ref Tg, .int (1 + y)])
        have eRh := xih _ _ eRi oRw.1 oRw.2.2
        have hGp : Dp K (upd Hg Tp (.tup [.ref Tg, .int (1 + y)])) (.ref Tp) (dGrp (ow.take m, 1 + y)) := .tup (SqT.of upd_same) (.cons (dI_sq ((TupK.of sTp).sq ((De.tup xeg).sq hTg))) (.cons (.int _) .nil))
        have tki := Di.tup xih
        refine ⟨Rw, _, _, rfl, rfl, eRh, small (by omega), ?_⟩
        have tkp : TupK (upd Hg Tp (.tup [.ref Tg, .int (1 + y)])) (upd (upd Hg Tp (.tup [.ref Tg, .int (1 + y)])) Rw (.lst (vs ++ [.ref Tp]))) := TupK.put eRh
        refine ⟨_, _, _, _, vs ++ [.ref Tp], gs ++ [(ow.take m, 1 + y)], rfl, Dh.put oRw, by omega, ExtPut (xi.trans xih) fRw3, upd_same, ?_, by rw [List.length_append]; simp only [List.length_cons, List.length_nil]; omega, fun g hg => ?_⟩
        · rw [List.map_append]
          exact DpAll.snoc ((tki.trans tkp).dpAll _ _ (to_grps _) hvs) (tkp.dp _ _ (to_dGrp _) hGp)
        · rcases List.mem_append.mp hg with h | h
          · exact bgs g h
          · have e : g = (ow.take m, 1 + y) := by simpa using h
            subst e
            have hnd : (ow.take m).Nodup := (List.take_sublist m ow).nodup ndow
            have hb : ∀ p ∈ ow.take m, 0 ≤ p ∧ p < (n : Int) := fun p hp => bow p (List.mem_of_mem_take hp)
            have hl := nodup_le hnd hb
            exact ⟨by dsimp only; omega, hb, ⟨by omega, by omega⟩, hnd⟩
      · refine ⟨.ref st, rfl, st, c, r, _, 3, rfl, Da, by omega, by decide, by decide, fun Hb q1 hq0 hq1 Db Xb => ⟨_, _, rfl, rfl, _, rfl, ?_⟩⟩
        have xib := xia.trans Xb
        have eOb := Xb _ _ eOm a1 a3
        by_cases hq : 0 < q1
        · rw [decide_eq_true hq]
          refine iteT ⟨.int sh, rfl, (show (1 : Nat) ≤ sizeLine by decide), fun A1 nA1 => ?_⟩
          have sA1 := sameNew (o := .lst [.int sh]) nA1
          have eA1 : (upd Hb A1 (.lst [.int sh])) A1 = some (.lst [.int sh]) := upd_same
          have eO1 := sA1 _ _ eOb
          generalize upd Hb A1 (.lst [.int sh]) = Hc at sA1 eA1 eO1 ⊢
          refine ⟨.ref Om, rfl, Om, rfl, ⟨_, SqL.of eO1⟩, fun F nF => lc_it (walk_list (K := K) (a := Om) (xs := os.map V.int)) (LcP Hc F os (fun x => if x = sh then none else some (.int x))) (.start nF) (fun j Hx _ h => SqL.of (h.1 _ _ eO1)) ?_ ?_⟩
          · rintro j x Hd Hx hj hL ⟨rfl, hx⟩
            have hx : (os.map V.int)[j]? = some x := hx
            rw [List.getElem?_map] at hx
            obtain ⟨p, hp, rfl⟩ := Option.map_eq_some_iff.mp hx
            have hjl := (List.getElem?_eq_some_iff.mp hp).1
            refine ⟨rfl, .int p, rfl, .int sh, rfl, rfl, _, rfl, ?_⟩
            by_cases e : p = sh
            · rw [show decide (V.int p = V.int sh) = true from decide_eq_true (by rw [e])]
              exact iteF (hL.no (Same.refl _) hp (by rw [if_pos e]))
            · rw [show decide (V.int p = V.int sh) = false from decide_eq_false (fun z => e (V.int.inj z))]
              exact iteT ⟨_, rfl, hL.yes nF (Same.refl _) hp (by rw [if_neg e]) (by omega)⟩
          · rintro Hd hL
            have ed := hL.done (by rw [List.length_map]; exact Nat.le_refl _)
            rw [filt_ne] at ed
            have lf := List.length_filter_le (fun x => x != sh) os
            refine ⟨A1, F, _, _, rfl, rfl, hL.1 _ _ eA1, ed, by rw [List.length_map]; simp only [List.length_cons, List.length_nil]; omega, fun O2 nO2 => ?_⟩
            have oO2 := (Db.same (sA1.trans hL.1)).off nO2
            have s02 := (sA1.trans hL.1).trans (sameNew (o := .lst ((sh :: os.filter (fun x => x != sh)).map V.int)) nO2)
            refine rest _ _ ⟨O2, sh :: os.filter (fun x => x != sh), rfl, Db.same s02, xib.trans (Ext.of s02), upd_same, by rw [List.length_cons]; omega, fun x hx => ?_, ?_, oO2.1, oO2.2.2⟩
            · rcases List.mem_cons.mp hx with rfl | hx
              · omega
              · exact hob x ((List.mem_filter.mp hx).1)
            · rw [List.nodup_cons]
              exact ⟨fun h => by have := (List.mem_filter.mp h).2; simp at this, hond.filter _⟩
        · rw [decide_eq_false hq]
          exact iteF (rest _ _ ⟨Om, os, rfl, Db, xib, eOb, by omega, hob, hond, a1, a3⟩)
    · rintro σ Hi ⟨y5, y6, y7, ti, vs, gs, rfl, Di, hti, xi, eRi, hvs, lgs, bgs⟩
      have hgm : (1 + gm).toNat ≤ 3 ∧ 1 ≤ (1 + gm).toNat := by omega
      refine ⟨.ref Tc, rfl, .ref Rw, rfl, Rw, _, rfl, .inl ⟨SqL.of eRi, fun Tg nTg => ⟨two, fun I nI => ?_⟩⟩⟩
      have s1 := sameNew (o := .tup vs) nTg
      have s2 := sameNew (o := .tup [.ref Tc, .ref Tg]) nI
      have s12 := s1.trans s2
      refine q _ I ti cs gs (Di.same s12) (by omega) ((x3.trans xi).trans (Ext.of s12)) (.tup (SqT.of upd_same) (.cons (dI_sq ((TupK.of s12).sq ((D3.tup xi).sq hTc))) (.cons (.tup ((TupK.of s2).sq (SqT.of upd_same)) ((TupK.of s12).dpAll _ _ (to_grps _) hvs)) .nil))) ⟨by omega, by omega, fun c hc => by have := bcs c hc; omega, by omega, by omega, fun g hg => ?_⟩ (by omega) (by omega) (fun c hc => (bcs c hc).2) (fun g hg => ⟨(bgs g hg).1, (bgs g hg).2.2.1.2⟩) (fun g hg => (bgs g hg).2.2.2)
      obtain ⟨b1, b2, b3, b4⟩ := bgs g hg
      exact ⟨by omega, fun p hp => by have := b2 p hp; omega, b3.1, by omega⟩
end
end Pv

namespace Pv
open PySem PySem.Spec PyProof.Rows L2
abbrev sLo : Stmt := topS 23
theorem scLo : FnScope ["_law_instance", "_law_rows_here", "_law_found", "_law_order", "_law_count", "_law_row", "_law_post", "_law_number"] ["_law_instance", "_law_rows_here"] (defScope sLo) := ⟨rfl, rfl, rfl, by decide +kernel, rfl, by decide +kernel, by decide +kernel⟩
abbrev sRw : Stmt := topS 24
theorem scRw : FnScope ["_law_size", "_law_count", "_law_found", "_law_number", "_law_row"] ["_law_size", "_law_count"] (defScope sRw) := ⟨rfl, rfl, rfl, by decide +kernel, rfl, by decide +kernel, by decide +kernel⟩
def rowLoads (ls : List Int) (ps row : List Int) : List Int := (ps.zip row).foldl (fun l q => addAt l q.1 q.2) ls
def loadsFrom (ls : List Int) (gs : List Gp) (rows : List (List Int)) : List Int := (gs.zip rows).foldl (fun l q => rowLoads l q.1.1 q.2) ls
theorem rowLoads_len (ps row : List Int) (ls : List Int) : (rowLoads ls ps row).length = ls.length := by
  unfold rowLoads
  generalize ps.zip row = z
  induction z generalizing ls with
  | nil => rfl
  | cons q z ih => rw [List.foldl_cons, ih, addAt_len]
theorem rowLoads_take {ls ps row : List Int} {i : Nat} {p x : Int} (hp : ps[i]? = some p) (hx : row[i]? = some x) : rowLoads ls (ps.take (i + 1)) (row.take (i + 1)) = addAt (rowLoads ls (ps.take i) (row.take i)) p x := by
  have h1 : ps.take (i + 1) = ps.take i ++ [p] := by rw [List.take_add_one, hp]; rfl
  have h2 : row.take (i + 1) = row.take i ++ [x] := by rw [List.take_add_one, hx]; rfl
  have l1 := (List.getElem?_eq_some_iff.mp hp).1
  have l2 := (List.getElem?_eq_some_iff.mp hx).1
  unfold rowLoads
  rw [h1, h2, List.zip_append (by rw [List.length_take, List.length_take]; omega), List.foldl_append]
  rfl
theorem loadsFrom_take {ls : List Int} {gs : List Gp} {rows : List (List Int)} {i : Nat} {g : Gp} {row : List Int} (hp : gs[i]? = some g) (hx : rows[i]? = some row) :
    loadsFrom ls (gs.take (i + 1)) (rows.take (i + 1)) = rowLoads (loadsFrom ls (gs.take i) (rows.take i)) g.1 row := by
  have h1 : gs.take (i + 1) = gs.take i ++ [g] := by rw [List.take_add_one, hp]; rfl
  have h2 : rows.take (i + 1) = rows.take i ++ [row] := by rw [List.take_add_one, hx]; rfl
  have l1 := (List.getElem?_eq_some_iff.mp hp).1
  have l2 := (List.getElem?_eq_some_iff.mp hx).1
  unfold loadsFrom
  rw [h1, h2, List.zip_append (by rw [List.length_take, List.length_take]; omega), List.foldl_append]
  rfl
theorem loadsFrom_len (gs : List Gp) (rows : List (List Int)) (ls : List Int) : (loadsFrom ls gs rows).length = ls.length := by
  unfold loadsFrom
  generalize gs.zip rows = z
  induction z generalizing ls with
  | nil => rfl
  | cons q z ih => rw [List.foldl_cons, ih, rowLoads_len]
theorem rowLoads_all (ls ps row : List Int) : rowLoads ls (ps.take (min ps.length row.length)) (row.take (min ps.length row.length)) = rowLoads ls ps row := by
  unfold rowLoads
  rw [zip_take, List.take_of_length_le (by rw [List.length_zip]; exact Nat.le_refl _)]
theorem loadsFrom_all (ls : List Int) (gs : List Gp) (rows : List (List Int)) : loadsFrom ls (gs.take (min gs.length rows.length)) (rows.take (min gs.length rows.length)) = loadsFrom ls gs rows := by
  unfold loadsFrom
  rw [zip_take, List.take_of_length_le (by rw [List.length_zip]; exact Nat.le_refl _)]
def InR (n : Nat) (gs : List Gp) : Prop := ∀ g ∈ gs, g.1.length ≤ 1000 ∧ ∀ p ∈ g.1, 0 ≤ p ∧ p < (n : Int)
def loadsOf (n : Nat) (gs : List Gp) (rows : List (List Int)) : List Int := loadsFrom (zeros n) gs rows
def rl (p : Nat) (ps row : List Int) : Int := ((ps.zip row).map fun q => if q.1.toNat = p then q.2 else 0).sum
def gl (p : Nat) (gs : List Gp) (rows : List (List Int)) : Int := ((gs.zip rows).map fun q => rl p q.1.1 q.2).sum
theorem rl_set (p : Nat) : ∀ {ps row : List Int} {o pn : Nat} {x y : Int}, ps[o]? = some (pn : Int) → row[o]? = some y → rl p ps (row.set o x) = rl p ps row + if pn = p then x - y else 0
  | [], _, _, _, _, _, h, _ => by simp at h
  | _ :: _, [], _, _, _, _, _, h => by simp at h
  | q :: ps, z :: row, 0, pn, x, y, h1, h2 => by
    simp at h1 h2
    subst h1 h2
    simp only [rl, List.set_cons_zero, List.zip_cons_cons, List.map_cons, List.sum_cons, Int.toNat_natCast]
    split <;> omega
  | q :: ps, z :: row, o + 1, pn, x, y, h1, h2 => by
    have := rl_set p (ps := ps) (row := row) (o := o) (pn := pn) (x := x) (y := y) (by simpa using h1) (by simpa using h2)
    simp only [rl] at this ⊢
    simp only [List.set_cons_succ, List.zip_cons_cons, List.map_cons, List.sum_cons]
    omega
theorem rl_end (p : Nat) : ∀ {ps row : List Int} {o : Nat} {x : Int}, ps.length ≤ o → rl p ps (row.set o x) = rl p ps row
  | [], _, _, _, _ => by simp [rl]
  | q :: ps, [], _, _, _ => by simp [rl]
  | q :: ps, z :: row, 0, _, h => by simp at h
  | q :: ps, z :: row, o + 1, x, h => by
    have := rl_end p (ps := ps) (row := row) (o := o) (x := x) (by simpa using h)
    simp only [rl] at this ⊢
    simp only [List.set_cons_succ, List.zip_cons_cons, List.map_cons, List.sum_cons]
    omega
theorem rl_zeros (p : Nat) : ∀ (ps : List Int) (n : Nat), rl p ps (zeros n) = 0
  | [], _ => by simp [rl]
  | q :: ps, 0 => by simp [rl, zeros]
  | q :: ps, n + 1 => by
    have := rl_zeros p ps n
    simp only [rl, zeros, List.replicate_succ, List.zip_cons_cons, List.map_cons, List.sum_cons] at this ⊢
    split <;> omega
theorem gl_set (p : Nat) : ∀ {gs : List Gp} {rows : List (List Int)} {k : Nat} {g : Gp} {new old : List Int}, gs[k]? = some g → rows[k]? = some old → gl p gs (rows.set k new) = gl p gs rows + rl p g.1 new - rl p g.1 old
  | [], _, _, _, _, _, h, _ => by simp at h
  | _ :: _, [], _, _, _, _, _, h => by simp at h
  | g0 :: gs, r :: rows, 0, g, new, old, h1, h2 => by
    simp at h1 h2
    subst h1 h2
    simp only [gl, List.set_cons_zero, List.zip_cons_cons, List.map_cons, List.sum_cons]
    omega
  | g0 :: gs, r :: rows, k + 1, g, new, old, h1, h2 => by
    have := gl_set p (gs := gs) (rows := rows) (k := k) (g := g) (new := new) (old := old) (by simpa using h1) (by simpa using h2)
    simp only [gl] at this ⊢
    simp only [List.set_cons_succ, List.zip_cons_cons, List.map_cons, List.sum_cons]
    omega
theorem gl_none (p : Nat) : ∀ (gs : List Gp) (n : Nat), gl p gs (List.replicate n []) = 0
  | [], _ => by simp [gl]
  | g :: gs, 0 => by simp [gl]
  | g :: gs, n + 1 => by
    have := gl_none p gs n
    simp only [gl, List.replicate_succ, List.zip_cons_cons, List.map_cons, List.sum_cons] at this ⊢
    have h0 : rl p g.1 [] = 0 := by simp [rl]
    omega
theorem addAt_getD {ls : List Int} {p : Nat} (q x : Int) (hp : p < ls.length) : (addAt ls q x).getD p 0 = ls.getD p 0 + if q.toNat = p then x else 0 := by
  unfold addAt
  simp only [List.getD_eq_getElem?_getD]
  by_cases h : q.toNat = p
  · subst h
    rw [if_pos rfl, List.getElem?_set_self hp, List.getElem?_eq_getElem hp]
    rfl
  · rw [if_neg h, List.getElem?_set_ne h]; omega
theorem rowLoads_getD {p : Nat} : ∀ (z : List (Int × Int)) (ls : List Int), p < ls.length → (z.foldl (fun l q => addAt l q.1 q.2) ls).getD p 0 = ls.getD p 0 + (z.map fun q => if q.1.toNat = p then q.2 else 0).sum
  | [], ls, _ => by simp
  | q :: z, ls, h => by
    rw [List.foldl_cons, rowLoads_getD z _ (by rw [addAt_len]; exact h), addAt_getD _ _ h, List.map_cons, List.sum_cons]
    omega
theorem loadsFrom_getD {p : Nat} : ∀ (z : List (Gp × List Int)) (ls : List Int), p < ls.length → (z.foldl (fun l q => rowLoads l q.1.1 q.2) ls).getD p 0 = ls.getD p 0 + (z.map fun q => rl p q.1.1 q.2).sum
  | [], ls, _ => by simp
  | q :: z, ls, h => by
    rw [List.foldl_cons, loadsFrom_getD z _ (by rw [rowLoads_len]; exact h), List.map_cons, List.sum_cons]
    have : (rowLoads ls q.1.1 q.2).getD p 0 = ls.getD p 0 + rl p q.1.1 q.2 := rowLoads_getD _ _ h
    omega
theorem loadsOf_getD {p n : Nat} (gs : List Gp) (rows : List (List Int)) (h : p < n) : (loadsOf n gs rows).getD p 0 = gl p gs rows := by
  have := loadsFrom_getD (p := p) (gs.zip rows) (zeros n) (by simpa [zeros] using h)
  unfold loadsOf loadsFrom
  rw [this]
  simp only [gl, zeros, List.getD_eq_getElem?_getD, List.getElem?_replicate]
  rw [if_pos h]
  simp
def rowsL : Nat → Nat → List (List Int)
  | 0, c => [[(c : Int)]]
  | s + 1, c => (List.range (c + 1)).flatMap fun k => (rowsL s (c - k)).map fun r => (k : Int) :: r
theorem rowsL_len : ∀ s, s ≤ 3 → ∀ c, c ≤ 3 → (rowsL s c).length ≤ 20 := by decide
theorem rowsL_row : ∀ {s c : Nat} {r : List Int}, r ∈ rowsL s c → r.length = s + 1
  | 0, c, r, h => by simp [rowsL] at h; subst h; rfl
  | s + 1, c, r, h => by
    unfold rowsL at h
    obtain ⟨k, _, h⟩ := List.mem_flatMap.mp h
    obtain ⟨r', h', rfl⟩ := List.mem_map.mp h
    rw [List.length_cons, rowsL_row h']
def fitL (cs : List Int) (gs : List Gp) (rs : List (List Int)) : Bool := ((loadsOf cs.length gs rs).zip cs).all fun q => decide (q.1 ≤ q.2)
def longL (found : List (List (List Int))) (g : Gp) : List (List (List Int)) := found.flatMap fun rs => (rowsL g.1.length g.2.toNat).map fun r => rs ++ [r]
def allN (cs : List Int) (gs : List Gp) : Nat → List (List (List Int))
  | 0 => [[]]
  | i + 1 => match gs[i]? with
    | some g => (longL (allN cs gs i) g).filter (fitL cs gs)
    | none => allN cs gs i
theorem longL_len {found : List (List (List Int))} {g : Gp} (h1 : g.1.length ≤ 3) (h2 : g.2 ≤ 3) : (longL found g).length ≤ found.length * 20 := by
  induction found with
  | nil => simp [longL]
  | cons f found ih =>
    have h := rowsL_len g.1.length h1 g.2.toNat (by omega)
    unfold longL at ih ⊢
    rw [List.flatMap_cons, List.length_append, List.length_map, List.length_cons, Nat.succ_mul]
    omega
theorem allN_len {cs : List Int} {gs : List Gp} (h : ∀ g ∈ gs, g.1.length ≤ 3 ∧ g.2 ≤ 3) : ∀ i, i ≤ 3 → (allN cs gs i).length ≤ 20 ^ i
  | 0, _ => by simp [allN]
  | i + 1, hi => by
    have ih := allN_len (cs := cs) h i (by omega)
    unfold allN
    cases e : gs[i]? with
    | none => dsimp only; exact Nat.le_trans ih (Nat.pow_le_pow_right (by decide) (by omega))
    | some g =>
      dsimp only
      have hg := h g (List.mem_of_getElem? e)
      have h1 := List.length_filter_le (fitL cs gs) (longL (allN cs gs i) g)
      have h2 := longL_len (found := allN cs gs i) hg.1 hg.2
      rw [Nat.pow_succ]
      have h3 := Nat.mul_le_mul_right 20 ih
      omega
theorem hem_fit (ls cs : List Int) : ((ls.zip cs).filterMap (fun q => if q.2 < q.1 then some (V.int 1) else none)).isEmpty = (ls.zip cs).all (fun q => decide (q.1 ≤ q.2)) := by
  induction ls.zip cs with
  | nil => rfl
  | cons q z ih =>
    rw [List.filterMap_cons, List.all_cons]
    by_cases y : q.2 < q.1
    · rw [if_pos y, decide_eq_false (by omega)]; rfl
    · rw [if_neg y, decide_eq_true (by omega)]; dsimp only; rw [ih]; rfl
theorem rl_dp {K : PySem.W.Frag} {H : Hp} {α : Type} {f : α → PyData} : ∀ {vs : List V} {l : List α}, Rl (fun v g => Dp K H v (f g)) vs l → DpAll K H vs (l.map f)
  | [], [], _ => .nil
  | [], _ :: _, h => by have := h.1; simp at this
  | _ :: _, [], h => by have := h.1; simp at this
  | v :: vs, g :: l, h => .cons (h.2 0 v g rfl rfl) (rl_dp ⟨by have := h.1; simpa using this, fun j v' g' h1 h2 => h.2 (j + 1) v' g' (by simpa using h1) (by simpa using h2)⟩)
theorem DpAll.app {K : PySem.W.Frag} {H : Hp} : ∀ {vs ws : List V} {ds es : List PyData}, DpAll K H vs ds → DpAll K H ws es → DpAll K H (vs ++ ws) (ds ++ es)
  | _, _, _, _, .nil, h => h
  | _, _, _, _, .cons a t, h => .cons a (DpAll.app t h)
theorem dI_hold {K : PySem.W.Frag} : ∀ H H' v (b : List Int), TupK H H' → Dp K H v (dI b) → Dp K H' v (dI b) := fun _ _ _ b tk h => tk.dp _ _ (to_dI b) h
theorem dA_hold {K : PySem.W.Frag} : ∀ H H' v (b : List (List Int)), TupK H H' → Dp K H v (dAsg b) → Dp K H' v (dAsg b) := fun _ _ _ b tk h => tk.dp _ _ (to_dAsg b) h
theorem to_asgs (l : List (List (List Int))) : tupOnlyAll (l.map dAsg) = true := tupOnlyAll_of fun d hd => by
  obtain ⟨x, _, rfl⟩ := List.mem_map.mp hd
  exact to_dAsg x
section
variable {P : Program} {w : World} {K : PySem.W.Frag} {mg : Str → Option Value} {base : Heap}
def spRw (K : PySem.W.Frag) : Nat → Sp
  | 0 => fun _ _ _ _ => False
  | n + 1 => fun vs H Q _ => ∃ (z c : Nat), vs = [.int ((z : Int) + 1), .int c] ∧ z ≤ n ∧ z ≤ 3 ∧ c ≤ 3 ∧ ∀ H' p us, Same H H' → H p = none → H' p = some (.lst us) → DpAll K H' us ((rowsL z c).map dI) → Q (.ref p) H'
set_option maxHeartbeats 4000000 in
theorem ok_Rw {f : Addr} {fd : FuncData} (F : Fun K "_law_rows" "_law_rows" sRw f fd) (b : Binds K fd ["_law_size", "_law_count"] []) (g : mg "_law_rows" = some (.ref f)) (m_range : mg "range" = none) :
    ∀ n, FnOk P w K mg base CX0 n f fd ["_law_size", "_law_count"] (spRw K n)
  | 0 => FnOk.none
  | n + 1 => by
    have G := ok_Rw F b g m_range n
    refine F.ok scRw (fun vs H Q E h => ?_) (fun cdv A outer s H vs Q E hr h => ?_)
    · obtain ⟨z, c, rfl, _⟩ := h; rfl
    · obtain ⟨z, c, rfl, hz, hz3, hc, q⟩ := h
      refine ⟨_, pss_cons (ps_if (pt_cmpR op_eq (pv 0) (pe_int) (nomark _))
          (pss_one (ps_ret (pe_lst (pa_cons (pe_tup (pa_cons (pv 1) pa_nil)) pa_nil)))) pss_nil)
        (pss_cons (ps_set (i := 2) scRw.nd rfl (.inl rfl) (pe_lst (pa_nil)))
        (pss_cons (ps_for PassesOwn.never rfl (pi_range1 (by rfl) m_range (pa_cons (pe_op op_add (pv 1) (pe_int)) pa_nil)) (pg_name (i := 3) scRw.nd rfl (.inr rfl))
          (pss_one (ps_expr (pe_bm PySem.F.plainAttrs_list PySem.F.slot_list_extend PySem.F.type_list_extend mt_extend (pv 2) (pa_cons (pe_lc (own := [("_law_row", 4)]) (g := gName 4) (tt := tYes) (te := tOp (rCatA K) (tTup (tCons (tVar 3) tNil)) (tVar 4)) rfl scRw.nd (pi_list (pe_call G hr (by rfl) g F.kp b .nil pass0 (pa_cons (pe_op op_sub (pv 0) (pe_int)) (pa_cons (pe_op op_sub (pv 1) (pv 3)) pa_nil)))) (blkOk_by (N := ["_law_size", "_law_count", "_law_found", "_law_number", "_law_row"]) (sc := defScope sRw) (by decide +kernel)) (fun _ _ _ _ _ => pg_name (i := 4) scRw.nd rfl (.inl rfl)) (fun _ _ _ _ _ => pts_nil) (fun _ _ _ _ _ => pe_op op_catA (pe_tup (pa_cons (pv 3) pa_nil)) (pv 4))) pa_nil)))))
        (pss_one (ps_ret (pv 2))))), ?_⟩
      refine ⟨.int ((z : Int) + 1), rfl, rfl, _, rfl, ?_⟩
      cases z with
      | zero =>
        rw [show decide (V.int (((0 : Nat) : Int) + 1) = V.int 1) = true from rfl]
        refine iteT ⟨.int c, rfl, (show (1 : Nat) ≤ sizeLine by decide), fun T nT => ⟨(show (1 : Nat) ≤ sizeLine by decide), fun p np => ?_⟩⟩
        refine q _ p _ ((sameNew nT).trans (sameNew np)) (freeOf np) upd_same ?_
        exact .cons (dI_sq ((TupK.of (sameNew np)).sq (SqT.of upd_same))) .nil
      | succ z =>
        obtain ⟨n, rfl⟩ : ∃ m, n = m + 1 := ⟨n - 1, by omega⟩
        rw [show decide (V.int (((z + 1 : Nat) : Int) + 1) = V.int 1) = false from decide_eq_false (fun e => by have := V.int.inj e; omega)]
        refine iteF ⟨Nat.zero_le _, fun Fo nFo => ?_⟩
        refine ⟨.int c, rfl, _, _, rfl, rfl, (c : Int) + 1, rfl, by omega, by omega, for_it (walk_range (lo := 0) (n := ((c : Int) + 1).toNat))
          (fun j σ Hj => ∃ (y3 : Option V) (vs : List V), σ = [some (.int (((z + 1 : Nat) : Int) + 1)), some (.int c), some (.ref Fo), y3, none] ∧ Same H Hj ∧ Hj Fo = some (.lst vs) ∧ DpAll K Hj vs (((List.range j).flatMap fun k => (rowsL z (c - k)).map fun r => (k : Int) :: r).map dI) ∧ vs.length ≤ 20 * j)
          ⟨none, [], rfl, sameNew nFo, upd_same, .nil, by simp⟩ (fun _ _ _ _ _ => trivial) ?_ ?_⟩
        · rintro j v σ Hk Hj hlt ⟨y3, vs, rfl, sj, eF, hvs, lvs⟩ ⟨rfl, rfl⟩
          have hj : j ≤ c := by omega
          refine ⟨.ref Fo, rfl, .inl ⟨rfl, _, SqL.of eF⟩, .int (((z + 1 : Nat) : Int) + 1), rfl, _, _, rfl, rfl, .int c, rfl, .int (0 + (j : Nat)), rfl, _, _, rfl, rfl, ?_⟩
          dsimp only
          refine ⟨z, c - j, ?_, by omega, by omega, by omega, fun H1 p vs1 s1 np1 e1 h1 => ?_⟩
          · rw [show ((z + 1 : Nat) : Int) + 1 - 1 = (z : Int) + 1 by omega, show (c : Int) - (0 + (j : Nat)) = ((c - j : Nat) : Int) by omega]; rfl
          have lz := rowsL_len z (by omega) (c - j) (by omega)
          have l1 := DpAll.len h1
          rw [List.length_map] at l1
          refine ⟨p, rfl, ⟨_, SqL.of e1⟩, fun D nD => lc_it (walk_list (K := K) (a := p) (xs := vs1)) (LcR (fun H v r => Dp K H v (dI ((j : Int) :: r))) H1 D (rowsL z (c - j)) (fun r => some r)) (.start nD) (fun k Hx _ h => SqL.of (h.1 _ _ e1)) ?_ ?_⟩
          · rintro k x Hx Hy hk hL ⟨rfl, hx⟩
            have hx : vs1[k]? = some x := hx
            obtain ⟨d, hd, hxd⟩ := DpAll.at h1 hx
            rw [List.getElem?_map] at hd
            obtain ⟨r, hrk, rfl⟩ := Option.map_eq_some_iff.mp hd
            have hkl := (List.getElem?_eq_some_iff.mp hrk).1
            obtain ⟨rA, rfl, hR⟩ := dI_ref hxd
            have lr := rowsL_row (List.mem_of_getElem? hrk)
            refine ⟨rfl, .int (0 + (j : Nat)), rfl, (show (1 : Nat) ≤ sizeLine by decide), fun T nT => ⟨.ref rA, rfl, ?_⟩⟩
            have sT := sameNew (o := .tup [.int (0 + (j : Nat))]) nT
            refine cat_eq (SqT.of upd_same) (sqS (hL.1.trans sT) hR) (Nat.le_of_lt (small (by simp; omega))) fun Hq pq sq hq => ?_
            exact hL.yes (fun H H' v b tk h => tk.dp _ _ (to_dI _) h) nD (sT.trans sq) hrk rfl (dI_sq (by simpa using hq)) (by omega)
          · rintro Hx hL
            obtain ⟨vr, er, hvr⟩ := hL.done (by omega)
            rw [List.filterMap_some] at hvr
            have s2 := s1.trans hL.1
            have eF2 := s2 _ _ eF
            have lvr := hvr.1
            have sz := small (n := 1000) (by decide)
            refine ⟨Fo, D, _, _, rfl, rfl, eF2, er, by omega, ?_⟩
            have tk := (TupK.of s2).trans (TupK.put (o := .lst (vs ++ vr)) eF2)
            refine ⟨_, vs ++ vr, rfl, samePut (sj.trans s2) nFo, upd_same, ?_, by rw [List.length_append]; omega⟩
            rw [List.range_succ, List.flatMap_append, List.map_append]
            refine DpAll.app (tk.dpAll _ _ (tupOnlyAll_of fun d hd => by obtain ⟨x, _, rfl⟩ := List.mem_map.mp hd; exact to_dI x) hvs) ?_
            rw [List.flatMap_cons, List.flatMap_nil, List.append_nil, List.map_map]
            exact (TupK.put eF2).dpAll _ _ (tupOnlyAll_of fun d hd => by obtain ⟨x, _, rfl⟩ := List.mem_map.mp hd; exact to_dI _) (rl_dp hvr)
        · rintro σ Hj ⟨y3, vs, rfl, sj, eF, hvs, lvs⟩
          refine ⟨.ref Fo, rfl, q _ Fo vs sj nFo eF ?_⟩
          rw [show ((c : Int) + 1).toNat = c + 1 by omega] at hvs
          exact hvs
def spLo (K : PySem.W.Frag) : Sp := fun vs H Q _ => ∃ (i a : Addr) (cs : List Int) (gs : List Gp) (rows : List (List Int)), vs = [.ref i, .ref a] ∧ Dp K H (.ref i) (dInst cs gs) ∧ Dp K H (.ref a) (dAsg rows) ∧
  cs.length ≤ 1000 ∧ InR cs.length gs ∧ ∀ H' p, Same H H' → H p = none → H' p = some (.lst ((loadsOf cs.length gs rows).map V.int)) → Q (.ref p) H'
set_option maxHeartbeats 4000000 in
theorem ok_Lo {f : Addr} {fd : FuncData} (F : Fun K "_law_loads" "_law_loads" sLo f fd)
    (m_len : mg "len" = none) (m_zip : mg "zip" = none) :
    FnOk P w K mg base CX0 1 f fd ["_law_instance", "_law_rows_here"] (spLo K) := by
  refine F.ok scLo (fun vs H Q E h => ?_) (fun cdv A outer s H vs Q E hr h => ?_)
  · obtain ⟨i, a, cs, gs, rows, rfl, _⟩ := h; rfl
  · obtain ⟨i, a, cs, gs, rows, rfl, hI, hA, hcs, hin, q⟩ := h
    refine ⟨_, pss_cons (ps_set (i := 2) scLo.nd rfl (.inl rfl) (pe_op op_rep (pe_lst (pa_cons (pe_int) pa_nil)) (pe_callB call_lenQ (by rfl) m_len PySem.boot_len (pa_cons (pe_ix ix_tup (pv 0) (pe_int) (fun _ _ => rfl)) pa_nil))))
      (pss_cons (ps_for PassesOwn.never rfl (RZ.pi_zipA (by rfl) m_zip (pa_cons (pe_ix ix_tup (pv 0) (pe_int) (fun _ _ => rfl)) (pa_cons (pv 1) pa_nil))) (pg_tup rfl (pgs_cons (pg_tup rfl (pgs_cons (pg_name (i := 3) scLo.nd rfl (.inl rfl)) (pgs_cons (pg_name (i := 4) scLo.nd rfl (.inl rfl)) pgs_nil))) (pgs_cons (pg_name (i := 5) scLo.nd rfl (.inl rfl)) pgs_nil)))
        (pss_one (ps_for PassesOwn.never rfl (RZ.pi_zipA (by rfl) m_zip (pa_cons (pv 3) (pa_cons (pv 5) pa_nil))) (pg_tup rfl (pgs_cons (pg_name (i := 6) scLo.nd rfl (.inl rfl)) (pgs_cons (pg_name (i := 7) scLo.nd rfl (.inl rfl)) pgs_nil)))
          (pss_one (ps_asg (pe_op op_add (pe_ix ix_list (pv 2) (pv 6) (fun _ _ => rfl)) (pv 7)) (pg_sub (pv 2) (pv 6) set_list))))))
      (pss_one (ps_ret (pv 2)))), ?_⟩
    obtain ⟨_, ca, ga, xs, e, hi, hc, hg, hgs⟩ := inst_open hI
    cases e
    obtain ⟨_, ys, e, ha, hrows⟩ := asg_open hA
    cases e
    refine ⟨by decide, fun p0 n0 => ⟨.ref i, rfl, i, _, 0, .ref ca, rfl, rfl, (TupK.new n0).sq hi, atI_nat (j := 0) rfl, ca, _, rfl, .inr ((TupK.new n0).sq hc), p0, _, _, rfl, rfl, upd_same, by omega, ?_, ?_, fun L nL => ?_⟩⟩
    · rw [List.length_map]; omega
    · rw [List.length_map]; show 1 * _ ≤ sizeLine; have := small (n := cs.length) (by omega); simp; omega
    have fL : H L = none := freeOf nL
    have s1 : Same H (upd (upd H p0 (.lst [.int 0])) L (.lst (List.replicate ((List.map V.int cs).length : Int).toNat [V.int 0]).flatten)) := samePut (sameNew n0) fL
    refine ⟨.ref i, rfl, i, _, 1, .ref ga, rfl, rfl, (TupK.of s1).sq hi, atI_nat (j := 1) rfl, .ref a, rfl, ga, a, xs, ys, rfl, .inr ⟨(TupK.of s1).sq hg, (TupK.of s1).sq ha, for_it (walk_zipT (K := K) (a := ga) (b := a) (xs := xs) (ys := ys) rfl)
      (fun i' σ H2 => ∃ y3 y4 y5 y6 y7, σ = [some (.ref i), some (.ref a), some (.ref L), y3, y4, y5, y6, y7] ∧ Same H H2 ∧ H2 L = some (.lst ((loadsFrom (zeros cs.length) (gs.take i') (rows.take i')).map V.int)))
      ⟨none, none, none, none, none, rfl, s1, ?_⟩ ?_ ?_ ?_⟩⟩
    · rw [upd_same, zeros_V, List.length_map]; simp [loadsFrom]
    · rintro i' σ H2 _ ⟨y3, y4, y5, y6, y7, rfl, s2, e2⟩
      exact ⟨(TupK.of s2).sq hg, (TupK.of s2).sq ha⟩
    · rintro i' v σ H2 H3 hlt ⟨y3, y4, y5, y6, y7, rfl, s2, e2⟩ ⟨T, x, y, rfl, nT, rfl, hx, hy⟩
      have hx' : xs[i']? = some x := hx
      have hy' : ys[i']? = some y := hy
      obtain ⟨d, hd, hxd⟩ := DpAll.at hgs hx'
      rw [List.getElem?_map] at hd
      obtain ⟨g, hgi, rfl⟩ := Option.map_eq_some_iff.mp hd
      obtain ⟨d, hd, hyd⟩ := DpAll.at hrows hy'
      rw [List.getElem?_map] at hd
      obtain ⟨row, hri, rfl⟩ := Option.map_eq_some_iff.mp hd
      have s3 : Same H (upd H2 T (.tup [x, y])) := s2.trans (sameNew nT)
      obtain ⟨gA, pA, rfl, hG, hP⟩ := grp_ref hxd
      obtain ⟨rA, rfl, hR⟩ := dI_ref hyd
      have e3 : (upd H2 T (.tup [.ref gA, .ref rA])) L = some (.lst ((loadsFrom (zeros cs.length) (gs.take i') (rows.take i')).map V.int)) := upNew nT e2
      have tk3 := TupK.of s3
      refine ⟨T, _, rfl, SqT.of upd_same, rfl, _, _, rfl, gA, _, rfl, tk3.sq hG, rfl, _, _, rfl, _, _, rfl, rfl, _, _, rfl, rfl, ?_⟩
      refine ⟨.ref pA, rfl, .ref rA, rfl, pA, rA, _, _, rfl, .inr ⟨tk3.sq hP, tk3.sq hR, for_it (walk_zipT (K := K) (a := pA) (b := rA) (xs := g.1.map V.int) (ys := row.map V.int) rfl)
        (fun j σ H4 => ∃ y6 y7, σ = [some (.ref i), some (.ref a), some (.ref L), some (.ref pA), some (.int g.2), some (.ref rA), y6, y7] ∧ Same H H4 ∧
          H4 L = some (.lst ((rowLoads (loadsFrom (zeros cs.length) (gs.take i') (rows.take i')) (g.1.take j) (row.take j)).map V.int)))
        ⟨_, _, rfl, s3, by simpa [rowLoads] using e3⟩ ?_ ?_ ?_⟩⟩
      · rintro j σ H4 _ ⟨y6, y7, rfl, s4, e4⟩
        exact ⟨(TupK.of s4).sq hP, (TupK.of s4).sq hR⟩
      · rintro j v σ H4 H5 hltj ⟨y6, y7, rfl, s4, e4⟩ ⟨T2, x, y, rfl, nT2, rfl, hx2, hy2⟩
        have hx2' : (g.1.map V.int)[j]? = some x := hx2
        have hy2' : (row.map V.int)[j]? = some y := hy2
        rw [List.getElem?_map] at hx2' hy2'
        obtain ⟨pp, hpp, rfl⟩ := Option.map_eq_some_iff.mp hx2'
        obtain ⟨nn, hnn, rfl⟩ := Option.map_eq_some_iff.mp hy2'
        have e5 := upNew (o := .tup [.int pp, .int nn]) nT2 e4
        have hpr := (hin g (List.mem_of_getElem? hgi)).2 pp (List.mem_of_getElem? hpp)
        obtain ⟨pn, rfl⟩ : ∃ pn : Nat, pp = pn := ⟨pp.toNat, by omega⟩
        have hrl := rowLoads_take (ls := loadsFrom (zeros cs.length) (gs.take i') (rows.take i')) hpp hnn
        generalize hcur : rowLoads (loadsFrom (zeros cs.length) (gs.take i') (rows.take i')) (g.1.take j) (row.take j) = cur at e4 e5 hrl
        have hcl : cur.length = cs.length := by rw [← hcur, rowLoads_len, loadsFrom_len]; simp [zeros]
        have hpl : pn < cur.length := by omega
        have hcv : (cur.map V.int)[pn]? = some (.int cur[pn]) := by rw [List.getElem?_map, List.getElem?_eq_getElem hpl]; rfl
        refine ⟨T2, _, rfl, SqT.of upd_same, rfl, _, _, rfl, _, _, rfl, rfl, ?_⟩
        refine ⟨.ref L, rfl, .int pn, rfl, L, _, pn, .int cur[pn], rfl, rfl, SqL.of e5, atI_nat hcv, .int nn, rfl, _, _, rfl, rfl, .ref L, rfl, .int pn, rfl, L, _, _, pn, rfl, rfl, e5, ixN_nat (by rw [List.length_map]; exact hpl), ?_⟩
        refine ⟨_, _, rfl, samePut (s4.trans (sameNew nT2)) fL, ?_⟩
        rw [upd_same, hrl]
        unfold addAt
        rw [Int.toNat_natCast, List.getD_eq_getElem?_getD, List.getElem?_eq_getElem hpl, List.map_set]
        rfl
      · rintro σ H4 ⟨y6, y7, rfl, s4, e4⟩
        refine ⟨_, _, _, _, _, rfl, s4, ?_⟩
        rw [loadsFrom_take hgi hri]
        rw [List.length_map, List.length_map, rowLoads_all] at e4
        exact e4
    · rintro σ H2 ⟨y3, y4, y5, y6, y7, rfl, s2, e2⟩
      rw [DpAll.len hgs, DpAll.len hrows, List.length_map, List.length_map, loadsFrom_all] at e2
      exact ⟨.ref L, rfl, q _ L s2 fL e2⟩
end
end Pv

namespace Pv
open PySem PySem.Spec PyProof.Rows L2
abbrev sAl : Stmt := topS 25
theorem scAl : FnScope ["_law_instance", "_law_found", "_law_order", "_law_count", "_law_longer", "_law_rows_here", "_law_row", "_law_load", "_law_capacity"] ["_law_instance"] (defScope sAl) := ⟨rfl, rfl, rfl, by decide +kernel, rfl, by decide +kernel, by decide +kernel⟩
theorem freeZ {H H' : Hp} {a : Addr} (s : Same H H') (n : H' a = none) : H a = none := by
  cases e : H a with
  | none => rfl
  | some o => rw [s _ _ e] at n; cases n
theorem allN_rows (cs : List Int) (gs : List Gp) : ∀ (i : Nat) {rs : List (List Int)}, rs ∈ allN cs gs i → rs.length ≤ i
  | 0, rs, h => by simp [allN] at h; rw [h]; simp
  | i + 1, rs, h => by
    unfold allN at h
    cases e : gs[i]? with
    | none => rw [e] at h; have := allN_rows cs gs i h; omega
    | some g =>
      rw [e] at h
      have h := (List.mem_filter.mp h).1
      unfold longL at h
      obtain ⟨f, hf, h⟩ := List.mem_flatMap.mp h
      obtain ⟨r, _, rfl⟩ := List.mem_map.mp h
      have := allN_rows cs gs i hf
      rw [List.length_append]; simp only [List.length_cons, List.length_nil]; omega
section
variable {P : Program} {w : World} {K : PySem.W.Frag} {mg : Str → Option Value} {base : Heap}
def spAl (K : PySem.W.Frag) : Sp := fun vs H Q _ => ∃ (i : Addr) (cs : List Int) (gs : List Gp), vs = [.ref i] ∧ Dp K H (.ref i) (dInst cs gs) ∧ InsOk cs gs ∧ cs.length ≤ 3 ∧ gs.length ≤ 3 ∧ (∀ g ∈ gs, g.1.length ≤ 3 ∧ g.2 ≤ 3) ∧
  ∀ H' p us, Same H H' → H p = none → H' p = some (.lst us) → DpAll K H' us ((allN cs gs gs.length).map dAsg) → Q (.ref p) H'
set_option maxHeartbeats 8000000 in
theorem ok_Al {f fRw fLo : Addr} {fd fdRw fdLo : FuncData} (F : Fun K "_law_all" "_law_all" sAl f fd)
    (FRw : Fun K "_law_rows" "_law_rows" sRw fRw fdRw) (bRw : Binds K fdRw ["_law_size", "_law_count"] []) (gRw : mg "_law_rows" = some (.ref fRw)) (GRw : FnOk P w K mg base CX0 5 fRw fdRw ["_law_size", "_law_count"] (spRw K 5))
    (FLo : Fun K "_law_loads" "_law_loads" sLo fLo fdLo) (bLo : Binds K fdLo ["_law_instance", "_law_rows_here"] []) (gLo : mg "_law_loads" = some (.ref fLo)) (GLo : FnOk P w K mg base CX0 1 fLo fdLo ["_law_instance", "_law_rows_here"] (spLo K))
    (m_len : mg "len" = none) (m_zip : mg "zip" = none) :
    FnOk P w K mg base CX0 6 f fd ["_law_instance"] (spAl K) := by
  refine F.ok scAl (fun vs H Q E h => ?_) (fun cdv A outer s H vs Q E hr h => ?_)
  · obtain ⟨i, cs, gs, rfl, _⟩ := h; rfl
  · obtain ⟨i, cs, gs, rfl, hI, ok, hc3, hg3, hb3, q⟩ := h
    have hu64 : (A.deeper (envOfC "_law_all" (defScope sAl) s.heap.objs.size f cdv)).units + 64 < cLine := by have := hr.un; omega
    have hu0 : (A.deeper (envOfC "_law_all" (defScope sAl) s.heap.objs.size f cdv)).units < cLine := by have := hr.un; omega
    refine ⟨_, pss_cons (ps_set (i := 1) scAl.nd rfl (.inl rfl) (pe_lst (pa_cons (pe_tup (pa_nil)) pa_nil)))
      (pss_cons (ps_for PassesOwn.never rfl (pi_tup (pe_ix ix_tup (pv 0) (pe_int) (fun _ _ => rfl))) (pg_tup rfl (pgs_cons (pg_name (i := 2) scAl.nd rfl (.inl rfl)) (pgs_cons (pg_name (i := 3) scAl.nd rfl (.inl rfl)) pgs_nil)))
        (pss_cons (ps_set (i := 4) scAl.nd rfl (.inl rfl) (pe_lst (pa_nil)))
        (pss_cons (ps_for PassesOwn.never rfl (pi_list (pv 1)) (pg_name (i := 5) scAl.nd rfl (.inr rfl))
          (pss_one (ps_expr (pe_bm PySem.F.plainAttrs_list PySem.F.slot_list_extend PySem.F.type_list_extend mt_extend (pv 4) (pa_cons (pe_lc (own := [("_law_row", 6)]) (g := gName 6) (tt := tYes) (te := tOp (rCatA K) (tVar 5) (tTup (tCons (tVar 6) tNil))) rfl scAl.nd (pi_list (pe_call GRw (hr.mono (by omega)) (by rfl) gRw FRw.kp bRw .nil pass0 (pa_cons (pe_op op_add (pe_callB call_lenQ (by rfl) m_len PySem.boot_len (pa_cons (pv 2) pa_nil)) (pe_int)) (pa_cons (pv 3) pa_nil)))) (blkOk_by (N := ["_law_instance", "_law_found", "_law_order", "_law_count", "_law_longer", "_law_rows_here", "_law_row", "_law_load", "_law_capacity"]) (sc := defScope sAl) (by decide +kernel)) (fun _ _ _ _ _ => pg_name (i := 6) scAl.nd rfl (.inl rfl)) (fun _ _ _ _ _ => pts_nil) (fun _ _ _ _ _ => pe_op op_catA (pv 5) (pe_tup (pa_cons (pv 6) pa_nil)))) pa_nil)))))
        (pss_cons (ps_set (i := 1) scAl.nd rfl (.inl rfl) (pe_lst (pa_nil)))
        (pss_one (ps_for PassesOwn.never rfl (pi_list (pv 4)) (pg_name (i := 5) scAl.nd rfl (.inr rfl))
          (pss_one (ps_if (pt_cmpR (op_eqNil hu0) (pe_lc (own := [("_law_load", 7), ("_law_capacity", 8)]) (g := gTup K 2 (gCons (gName 7) (gCons (gName 8) gNil))) (tt := tTest (tOp (rI0 fun i j => .bl (decide (j < i))) (tVar 7) (tVar 8))) (te := tC (.int 1)) rfl scAl.nd (pi_zipM (by rfl) m_zip (pa_cons (pe_call GLo (hr.mono (by omega)) (by rfl) gLo FLo.kp bLo .nil pass0 (pa_cons (pv 0) (pa_cons (pv 5) pa_nil))) (pa_cons (pe_ix ix_tup (pv 0) (pe_int) (fun _ _ => rfl)) pa_nil))) (blkOk_by (N := ["_law_instance", "_law_found", "_law_order", "_law_count", "_law_longer", "_law_rows_here", "_law_row", "_law_load", "_law_capacity"]) (sc := defScope sAl) (by decide +kernel)) (fun _ _ _ _ _ => pg_tup rfl (pgs_cons (pg_name (i := 7) scAl.nd rfl (.inl rfl)) (pgs_cons (pg_name (i := 8) scAl.nd rfl (.inl rfl)) pgs_nil))) (fun _ _ _ _ _ => pts_one (pt_cmpR op_gt (pv 7) (pv 8) (nomark _))) (fun _ _ _ _ _ => pe_int)) (pe_lst (pa_nil)) (nomark _))
            (pss_one (ps_expr (pe_bm PySem.F.plainAttrs_list PySem.F.slot_list_append PySem.F.type_list_append mt_append (pv 1) (pa_cons (pv 5) pa_nil)))) pss_nil))))))))
      (pss_one (ps_ret (pv 1)))), ?_⟩
    obtain ⟨_, ca, ga, xs, e, hi, hc, hg, hgs⟩ := inst_open hI
    cases e
    have lxs : xs.length = gs.length := by have := DpAll.len hgs; rwa [List.length_map] at this
    have hin : InR cs.length gs := fun g hg => ⟨by have := (ok.gp g hg).1; omega, (ok.gp g hg).2.1⟩
    have one : (1 : Nat) ≤ sizeLine := by decide
    have sz := small (n := 200000) (by decide)
    refine ⟨Nat.zero_le _, fun T0 nT0 => ⟨one, fun L0 nL0 => ?_⟩⟩
    have s0 := (sameNew (o := .tup []) nT0).trans (sameNew (o := .lst [.ref T0]) nL0)
    have hT0 : Dp K (upd (upd H T0 (.tup [])) L0 (.lst [.ref T0])) (.ref T0) (dAsg []) := .tup ((TupK.of (sameNew nL0)).sq (SqT.of upd_same)) .nil
    have e0 : (upd (upd H T0 (.tup [])) L0 (.lst [.ref T0])) L0 = some (.lst [.ref T0]) := upd_same
    have fL0 : H L0 = none := freeOf nL0
    generalize upd (upd H T0 (.tup [])) L0 (.lst [.ref T0]) = H0 at s0 hT0 e0 ⊢
    refine ⟨.ref i, rfl, i, _, 1, .ref ga, rfl, rfl, sqS s0 hi, atI_nat (j := 1) rfl, ga, rfl, ⟨_, sqS s0 hg⟩, for_it (walk_tup (K := K) (a := ga) (xs := xs))
      (fun j σ Hj => ∃ (y2 y3 y4 y5 : Option V) (Fo : Addr) (vs : List V), σ = [some (.ref i), some (.ref Fo), y2, y3, y4, y5, none, none, none] ∧ Same H Hj ∧ Hj Fo = some (.lst vs) ∧ H Fo = none ∧ DpAll K Hj vs ((allN cs gs j).map dAsg))
      ⟨none, none, none, none, L0, _, rfl, s0, e0, fL0, .cons hT0 .nil⟩ (fun j σ Hj _ h => by obtain ⟨_, _, _, _, _, _, _, s, _⟩ := h; exact sqS s hg) ?_ ?_⟩
    · rintro j v σ Hk Hj hlt ⟨y2, y3, y4, y5, Fo, vs, rfl, sj, eF, fF, hvs⟩ ⟨rfl, hx⟩
      have hx : xs[j]? = some v := hx
      obtain ⟨d, hd, hxd⟩ := DpAll.at hgs hx
      rw [List.getElem?_map] at hd
      obtain ⟨g, hgj, rfl⟩ := Option.map_eq_some_iff.mp hd
      obtain ⟨gA, pA, rfl, hG, hP⟩ := grp_ref hxd
      have gb := hb3 g (List.mem_of_getElem? hgj)
      have gp := ok.gp g (List.mem_of_getElem? hgj)
      have hj3 : j < 3 := by have := (List.getElem?_eq_some_iff.mp hgj).1; omega
      have lvs := DpAll.len hvs
      rw [List.length_map] at lvs
      have lall := allN_len (cs := cs) (gs := gs) hb3 j (by omega)
      have h400 : 20 ^ j ≤ 400 := by
        have : 20 ^ j ≤ 20 ^ 2 := Nat.pow_le_pow_right (by decide) (by omega)
        exact this
      obtain ⟨cn, ecn⟩ : ∃ cn : Nat, g.2 = cn := ⟨g.2.toNat, by omega⟩
      refine ⟨gA, _, rfl, sqS sj hG, rfl, _, _, rfl, _, _, rfl, rfl, ?_⟩
      refine ⟨Nat.zero_le _, fun Lo nLo => ?_⟩
      have fLo : H Lo = none := freeZ sj nLo
      have sL := sameNew (o := .lst []) nLo
      have eL1 : (upd Hj Lo (.lst [])) Lo = some (.lst []) := upd_same
      have hvs1 := (TupK.of sL).dpAll _ _ (to_asgs _) hvs
      have eF1 := sL _ _ eF
      have sj1 := sj.trans sL
      generalize upd Hj Lo (.lst []) = H1 at sL eL1 hvs1 eF1 sj1 ⊢
      -- all longer ones
      have fLoj : Hj Lo = none := nLo
      refine ⟨.ref Fo, rfl, Fo, rfl, ⟨_, SqL.of eF1⟩, for_it (walk_list (K := K) (a := Fo) (xs := vs))
        (fun k σ Hx => ∃ (y5 : Option V) (ws : List V), σ = [some (.ref i), some (.ref Fo), some (.ref pA), some (.int g.2), some (.ref Lo), y5, none, none, none] ∧ Same Hj Hx ∧ Hx Lo = some (.lst ws) ∧ DpAll K Hx ws ((longL ((allN cs gs j).take k) g).map dAsg) ∧ ws.length ≤ 20 * k)
        ⟨_, [], rfl, sL, eL1, by simpa [longL] using DpAll.nil, by simp⟩ (fun k σ Hx _ h => by obtain ⟨_, _, _, s, _⟩ := h; exact SqL.of (s _ _ eF)) ?_ ?_⟩
      · rintro k v σ Hy Hx hltk ⟨y5, ws, rfl, sx, eLx, hws, lws⟩ ⟨rfl, hxk⟩
        have hxk : vs[k]? = some v := hxk
        obtain ⟨d, hd, hvd⟩ := DpAll.at ((TupK.of sx).dpAll _ _ (to_asgs _) hvs) hxk
        rw [List.getElem?_map] at hd
        obtain ⟨rs, hrs, rfl⟩ := Option.map_eq_some_iff.mp hd
        have hk4 : k < 400 := by have := (List.getElem?_eq_some_iff.mp hrs).1; omega
        obtain ⟨aA, as, rfl, hAa, hAs⟩ := asg_open hvd
        have las : as.length = rs.length := by have := DpAll.len hAs; rwa [List.length_map] at this
        have sjx := sj.trans sx
        refine ⟨.ref Lo, rfl, .inl ⟨rfl, _, SqL.of eLx⟩, .ref pA, rfl, pA, _, rfl, .inr (sqS sjx hP), _, _, rfl, rfl, .int g.2, rfl, ?_⟩
        refine ⟨g.1.length, cn, by rw [ecn, List.length_map]; rfl, Nat.le_trans gb.1 (by decide), gb.1, by omega, fun Ha p us sa np ep hus => ?_⟩
        have lz := rowsL_len g.1.length gb.1 cn (by omega)
        have lus := DpAll.len hus
        rw [List.length_map] at lus
        have hAa1 := sqS sa hAa
        refine ⟨p, rfl, ⟨_, SqL.of ep⟩, fun D nD => lc_it (walk_list (K := K) (a := p) (xs := us)) (LcR (fun H v r => Dp K H v (dAsg (rs ++ [r]))) Ha D (rowsL g.1.length cn) (fun r => some r)) (.start nD) (fun m Hm _ h => SqL.of (h.1 _ _ ep)) ?_ ?_⟩
        · rintro m x Hm Hn hm hL ⟨rfl, hxm⟩
          have hxm : us[m]? = some x := hxm
          obtain ⟨d, hd, hxd⟩ := DpAll.at hus hxm
          rw [List.getElem?_map] at hd
          obtain ⟨r, hrm, rfl⟩ := Option.map_eq_some_iff.mp hd
          have hml := (List.getElem?_eq_some_iff.mp hrm).1
          have hr20 : rs.length ≤ 20 := by
            have := allN_rows cs gs j (List.mem_of_getElem? hrs)
            omega
          refine ⟨rfl, .ref aA, rfl, x, rfl, one, fun T nT => ?_⟩
          have sT := sameNew (o := .tup [x]) nT
          refine cat_eq (sqS (hL.1.trans sT) hAa1) (SqT.of upd_same) (Nat.le_of_lt (small (by simp; omega))) fun Hq pq sq hq => ?_
          refine hL.yes (fun H H' v b tk h => tk.dp _ _ (to_dAsg _) h) nD (sT.trans sq) hrm rfl (.tup hq ?_) (by omega)
          rw [List.map_append]
          exact DpAll.snoc ((TupK.of ((sa.trans hL.1).trans (sT.trans sq))).dpAll _ _ (to_rows _) hAs) ((TupK.of (hL.1.trans (sT.trans sq))).dp _ _ (to_dI _) hxd)
        · rintro Hm hL
          obtain ⟨vr, er, hvr⟩ := hL.done (by omega)
          rw [List.filterMap_some] at hvr
          have s2 := sa.trans hL.1
          have eL2 := s2 _ _ eLx
          have lvr := hvr.1
          refine ⟨Lo, D, _, _, rfl, rfl, eL2, er, by omega, ?_⟩
          have tk := (TupK.of s2).trans (TupK.put (o := .lst (ws ++ vr)) eL2)
          refine ⟨_, ws ++ vr, rfl, samePut (sx.trans s2) fLoj, upd_same, ?_, by rw [List.length_append]; omega⟩
          rw [take_snoc hrs]
          unfold longL
          rw [List.flatMap_append, List.map_append, List.flatMap_cons, List.flatMap_nil, List.append_nil, List.map_map]
          refine DpAll.app (tk.dpAll _ _ (to_asgs _) hws) ?_
          rw [show g.2.toNat = cn by omega]
          exact (TupK.put eL2).dpAll _ _ (tupOnlyAll_of fun d hd => by obtain ⟨x, _, rfl⟩ := List.mem_map.mp hd; exact to_dAsg _) (rl_dp hvr)
      · rintro σ Hx ⟨y5, ws, rfl, sx, eLx, hws, lws⟩
        rw [lvs, List.take_length] at hws
        have lws2 := DpAll.len hws
        rw [List.length_map] at lws2
        have lws3 : ws.length ≤ 8000 := by omega
        have sjx := sj.trans sx
        refine ⟨Nat.zero_le _, fun F2 nF2 => ?_⟩
        have fF2 : H F2 = none := freeZ sjx nF2
        have s2 := sameNew (o := .lst []) nF2
        refine ⟨.ref Lo, rfl, Lo, rfl, ⟨_, SqL.of (s2 _ _ eLx)⟩, for_it (walk_list (K := K) (a := Lo) (xs := ws))
          (fun k σ Hy => ∃ (y5 : Option V) (us : List V), σ = [some (.ref i), some (.ref F2), some (.ref pA), some (.int g.2), some (.ref Lo), y5, none, none, none] ∧ Same Hx Hy ∧ Hy F2 = some (.lst us) ∧ DpAll K Hy us ((((longL (allN cs gs j) g).take k).filter (fitL cs gs)).map dAsg) ∧ us.length ≤ k)
          ⟨_, [], rfl, s2, upd_same, by simpa using DpAll.nil, by simp⟩ (fun k σ Hy _ h => by obtain ⟨_, _, _, s, _⟩ := h; exact SqL.of (s _ _ eLx)) ?_ ?_⟩
        · rintro k v σ Hz Hy hltk ⟨y5, us, rfl, sy, eFy, hus, lus⟩ ⟨rfl, hxk⟩
          have hxk : ws[k]? = some v := hxk
          have hk8 : k < 8000 := by have := (List.getElem?_eq_some_iff.mp hxk).1; omega
          obtain ⟨d, hd, hvd⟩ := DpAll.at ((TupK.of sy).dpAll _ _ (to_asgs _) hws) hxk
          rw [List.getElem?_map] at hd
          obtain ⟨rs, hrs, rfl⟩ := Option.map_eq_some_iff.mp hd
          obtain ⟨aA, as, rfl, hAa, hAs⟩ := asg_open hvd
          have sjy := sjx.trans sy
          refine ⟨.ref i, rfl, .ref aA, rfl, i, aA, cs, gs, rs, rfl, (TupK.of sjy).dp _ _ (to_dInst _ _) hI, hvd, by omega, hin, fun Ha p sa np ep => ?_⟩
          have hca := sqS (sjy.trans sa) hc
          obtain ⟨ls, els⟩ : ∃ ls, loadsOf cs.length gs rs = ls := ⟨_, rfl⟩
          rw [els] at ep
          refine ⟨.ref i, rfl, i, _, 0, .ref ca, rfl, rfl, sqS (sjy.trans sa) hi, atI_nat (j := 0) rfl, p, ca, _, _, rfl, SqL.of ep, hca, fun D nD => lc_it (walk_zipM (K := K) (a := p) (b := ca) (xs := ls.map V.int) (ys := cs.map V.int) rfl) (LcP Ha D (ls.zip cs) (fun q => if q.2 < q.1 then some (.int 1) else none)) (.start nD) (fun m Hm _ h => ⟨SqL.of (h.1 _ _ ep), sqS h.1 hca⟩) ?_ ?_⟩
          · rintro m x Hm Hn hm hL ⟨T, x1, y1, rfl, nT, rfl, hx, hy⟩
            have hx' : (ls.map V.int)[m]? = some x1 := hx
            have hy' : (cs.map V.int)[m]? = some y1 := hy
            rw [List.getElem?_map] at hx' hy'
            obtain ⟨lo, hlo, rfl⟩ := Option.map_eq_some_iff.mp hx'
            obtain ⟨ci, hci, rfl⟩ := Option.map_eq_some_iff.mp hy'
            have hz : (ls.zip cs)[m]? = some (lo, ci) := by rw [List.getElem?_zip_eq_some]; exact ⟨hlo, hci⟩
            have hml := (List.getElem?_eq_some_iff.mp hci).1
            refine ⟨T, _, rfl, SqT.of upd_same, rfl, _, _, rfl, _, _, rfl, rfl, rfl, ?_⟩
            refine ⟨.int lo, rfl, .int ci, rfl, _, _, rfl, rfl, _, rfl, ?_⟩
            by_cases k1 : ci < lo
            · rw [decide_eq_true k1]
              exact iteT (hL.yes nD (sameNew nT) hz (by rw [if_pos k1]) (by omega))
            · rw [decide_eq_false k1]
              exact iteF (hL.no (sameNew nT) hz (by rw [if_neg k1]))
          · rintro Hm hL
            have e4 := hL.done (by rw [List.length_zip, List.length_map, List.length_map]; exact Nat.le_refl _)
            refine ⟨Nat.zero_le _, fun p3 np3 => ⟨D, p3, _, rfl, rfl, SqL.of (upNew np3 e4), SqL.of upd_same, ?_⟩⟩
            have s45 := (sa.trans hL.1).trans (sameNew (o := .lst []) np3)
            have eF5 := s45 _ _ eFy
            have hvd5 := (TupK.of s45).dp _ _ (to_dAsg _) hvd
            have hus5 := (TupK.of s45).dpAll _ _ (to_asgs _) hus
            generalize upd Hm p3 (.lst []) = H5 at s45 eF5 hvd5 hus5 ⊢
            rw [hem_fit, ← els]
            refine ⟨_, rfl, ?_⟩
            rw [show (((loadsOf cs.length gs rs).zip cs).all fun q => decide (q.1 ≤ q.2)) = fitL cs gs rs from rfl]
            cases hf : fitL cs gs rs with
            | true =>
              refine iteT ⟨.ref F2, rfl, .inl ⟨rfl, _, SqL.of eF5⟩, .ref aA, rfl, F2, _, _, rfl, rfl, eF5, small (by omega), ?_⟩
              refine ⟨_, us ++ [.ref aA], rfl, samePut (sy.trans s45) nF2, upd_same, ?_, by rw [List.length_append]; simp only [List.length_cons, List.length_nil]; omega⟩
              rw [take_snoc hrs, List.filter_append, List.map_append, List.filter_cons, hf, if_pos rfl]
              exact DpAll.app ((TupK.put eF5).dpAll _ _ (to_asgs _) hus5) (.cons ((TupK.put eF5).dp _ _ (to_dAsg _) hvd5) .nil)
            | false =>
              refine iteF ⟨_, us, rfl, sy.trans s45, eF5, ?_, by omega⟩
              rw [take_snoc hrs, List.filter_append, List.filter_cons, hf, if_neg Bool.false_ne_true, List.filter_nil, List.append_nil]
              exact hus5
        · rintro σ Hy ⟨y5, us, rfl, sy, eFy, hus, lus⟩
          rw [lws2, List.take_length] at hus
          refine ⟨_, _, _, _, F2, us, rfl, sjx.trans sy, eFy, fF2, ?_⟩
          have : allN cs gs (j + 1) = (longL (allN cs gs j) g).filter (fitL cs gs) := by rw [allN, hgj]
          rw [this]; exact hus
    · rintro σ Hj ⟨y2, y3, y4, y5, Fo, vs, rfl, sj, eF, fF, hvs⟩
      rw [lxs] at hvs
      exact ⟨.ref Fo, rfl, q _ Fo vs sj fF eF hvs⟩
end
end Pv

namespace Pv
open PySem PySem.Spec PyProof.Rows L2
abbrev sWI : Stmt := topS 8
theorem scWI : FnScope ["items", "at", "item"] ["items", "at", "item"] (defScope sWI) := ⟨rfl, rfl, rfl, by decide +kernel, rfl, by decide +kernel, by decide +kernel⟩
abbrev sCs : Stmt := topS 11
theorem scCs : FnScope ["parts", "post", "count", "limit", "longer", "done", "share", "room", "rest", "least", "most", "number", "left"] ["parts", "post", "count", "limit"] (defScope sCs) := ⟨rfl, rfl, rfl, by decide +kernel, rfl, by decide +kernel, by decide +kernel⟩
abbrev Pt := List (List Int) × List Int × List Int
def dPt (x : Pt) : PyData := .tuple [dAsg x.1, dI x.2.1, dI x.2.2]
theorem to_dPt (x : Pt) : tupOnly (dPt x) = true := by simp [dPt, tupOnly, tupOnlyAll, to_dAsg, to_dI]
theorem to_pts (l : List Pt) : tupOnlyAll (l.map dPt) = true := tupOnlyAll_of fun d hd => by
  obtain ⟨x, _, rfl⟩ := List.mem_map.mp hd
  exact to_dPt x
def optN (post : Option Nat) (count : Int) (x : Pt) : List Int := match post with
  | none => [count - x.2.1.sum]
  | some p => upTo (min (count - x.2.1.sum) (x.2.2.getD p 0) + 1).toNat
def leftN (post : Option Nat) (x : Pt) (n : Int) : List Int := match post with
  | none => x.2.2
  | some p => x.2.2.set p (x.2.2.getD p 0 - n)
def nextP (post : Option Nat) (x : Pt) (n : Int) : Pt := (x.1, x.2.1 ++ [n], leftN post x n)
def contL (post : Option Nat) (count : Int) (P : List Pt) : List Pt := P.flatMap fun x => (optN post count x).map (nextP post x)
def oP : Option Nat → V
  | none => .non
  | some p => .int p
structure POk (n : Nat) (count : Int) (x : Pt) : Prop where
  d : x.1.length ≤ 20
  s : x.2.1.length ≤ 20
  l : x.2.2.length = n
  r : ∀ c ∈ x.2.2, 0 ≤ c ∧ c ≤ 10 ^ 12
  b : 0 ≤ count - x.2.1.sum ∧ count - x.2.1.sum ≤ 10 ^ 12
theorem contL_take {post : Option Nat} {count : Int} {P : List Pt} {i : Nat} {x : Pt} (h : P[i]? = some x) : contL post count (P.take (i + 1)) = contL post count (P.take i) ++ (optN post count x).map (nextP post x) := by
  unfold contL
  rw [take_snoc h, List.flatMap_append, List.flatMap_cons, List.flatMap_nil, List.append_nil]
theorem contL_part {post : Option Nat} {count : Int} {P : List Pt} {i : Nat} {x : Pt} (h : P[i]? = some x) {j : Nat} (hj : j < (optN post count x).length) : (contL post count (P.take i)).length + j < (contL post count P).length := by
  have e : contL post count P = contL post count (P.take (i + 1)) ++ contL post count (P.drop (i + 1)) := by
    unfold contL
    rw [← List.flatMap_append, List.take_append_drop]
  rw [e, contL_take h, List.length_append, List.length_append, List.length_map]
  omega
def rSumT (K : PySem.W.Frag) : RC := fun xs H Q => ∃ (a : Addr) (ns : List Int), xs = [.ref a] ∧ SqT K H a (ns.map V.int) ∧ Q (.int ns.sum) H
theorem call_sumTQ {X : Cx} (hc : X.calm = true) : CallR X (.builtin "sum") (rSumT X.K) := call_sumT hc
theorem upTo_at {n j : Nat} (h : j < n) : (upTo n)[j]? = some (j : Int) := by simp [upTo, h]
section
variable {P : Program} {w : World} {K : PySem.W.Frag} {mg : Str → Option Value} {base : Heap}
def spWI (K : PySem.W.Frag) : Sp := fun vs H Q _ => ∃ (a : Addr) (xs : List V) (n : Nat) (v : V), vs = [.ref a, .int n, v] ∧ SqT K H a xs ∧ n < xs.length ∧ xs.length ≤ 1000 ∧ ∀ H' p, Same H H' → SqT K H' p (xs.set n v) → Q (.ref p) H'
theorem ok_WI {f : Addr} {fd : FuncData} (F : Fun K "with_item" "with_item" sWI f fd)
     :
    FnOk P w K mg base CX0 1 f fd ["items", "at", "item"] (spWI K) := by
  refine F.ok scWI (fun vs H Q E h => ?_) (fun cdv A outer s H vs Q E hr h => ?_)
  · obtain ⟨a, xs, n, v, rfl, _⟩ := h; rfl
  · obtain ⟨a, xs, n, v, rfl, hA, hn, hx, q⟩ := h
    refine ⟨_, pss_one (ps_ret (pe_op op_catA (pe_op op_catA (pe_slice sl_tupA (pv 0) po_none (po_some (pv 1))) (pe_tup (pa_cons (pv 2) pa_nil))) (pe_slice sl_tupA (pv 0) (po_some (pe_op op_add (pv 1) (pe_int))) po_none))), ?_⟩
    refine ⟨.ref a, rfl, .int (n : Nat), rfl, _, rfl, take_eq hA n (fun H1 b s1 hb => ⟨v, rfl, (show (1 : Nat) ≤ sizeLine by decide), fun T nT => ?_⟩)⟩
    have sT := sameNew (o := .tup [v]) nT
    refine cat_eq ((TupK.of sT).sq hb) (SqT.of upd_same) (Nat.le_of_lt (small (by rw [List.length_take]; simp; omega))) (fun H2 p2 s2 h2 => ⟨.ref a, rfl, .int (n : Nat), rfl, _, _, rfl, rfl, _, rfl, ?_⟩)
    have s02 := (s1.trans sT).trans s2
    dsimp only [tNoPart]
    rw [show ((n : Int) + 1) = ((n + 1 : Nat) : Int) by omega]
    refine drop_eq ((TupK.of s02).sq hA) (n + 1) (fun H3 p3 s3 h3 => ?_)
    refine cat_eq ((TupK.of s3).sq h2) h3 (Nat.le_of_lt (small (by simp [List.length_take, List.length_drop]; omega))) (fun H4 p4 s4 h4 => ?_)
    refine q H4 p4 ((s02.trans s3).trans s4) ?_
    have e : xs.set n v = (xs.take n ++ [v]) ++ xs.drop (n + 1) := by rw [List.set_eq_take_append_cons_drop, if_pos hn]; simp
    rw [e]
    exact h4
theorem pt_open {H : Hp} {v : V} {x : Pt} (h : Dp K H v (dPt x)) : ∃ a d s r, v = .ref a ∧ SqT K H a [.ref d, .ref s, .ref r] ∧ Dp K H (.ref d) (dAsg x.1) ∧ SqT K H s (x.2.1.map V.int) ∧ SqT K H r (x.2.2.map V.int) := by
  unfold dPt at h
  cases h with
  | tup h1 h2 =>
    cases h2 with
    | cons a1 h2 =>
      cases h2 with
      | cons a2 h2 =>
        cases h2 with
        | cons a3 h2 =>
          cases h2
          obtain ⟨s, rfl, hs⟩ := dI_ref a2
          obtain ⟨r, rfl, hr⟩ := dI_ref a3
          obtain ⟨d, _, rfl, _⟩ := asg_open a1
          exact ⟨_, d, s, r, rfl, h1, a1, hs, hr⟩
def spCs (K : PySem.W.Frag) (C : Addr) : Sp := fun vs H Q E => ∃ (pa : Addr) (post : Option Nat) (cnt lim : Int) (vs0 : List V) (P : List Pt) (n : Nat), vs = [.ref pa, oP post, .int cnt, .int lim] ∧ H pa = some (.lst vs0) ∧ DpAll K H vs0 (P.map dPt) ∧ (∀ x ∈ P, POk n cnt x) ∧ (∀ p, post = some p → p < n) ∧ n ≤ 6 ∧ 1 ≤ lim ∧ lim ≤ 2000 ∧ P.length ≤ 2000 ∧
  (((contL post cnt P).length : Int) ≤ lim → ∀ H' p us, Same H H' → H' p = some (.lst us) → DpAll K H' us ((contL post cnt P).map dPt) → Q (.ref p) H') ∧
  (lim < ((contL post cnt P).length : Int) → ∀ H' dx, Same H H' → H' dx = none → E (.ref C) (some dx) (upd H' dx (.xd [("limit", .int lim)])))
set_option maxHeartbeats 8000000 in
theorem ok_Cs {f fWI : Addr} {fd fdWI : FuncData} (F : Fun K "continued_shares" "continued_shares" sCs f fd)
    (FWI : Fun K "with_item" "with_item" sWI fWI fdWI) (bWI : Binds K fdWI ["items", "at", "item"] []) (gWI : mg "with_item" = some (.ref fWI)) (GWI : FnOk P w K mg base CX0 1 fWI fdWI ["items", "at", "item"] (spWI K))
    {cTM : Addr} {fiTM : Addr} {fdiTM : FuncData} (gTM : mg "TooMany" = some (.ref cTM)) (XTM : XF K cTM fiTM "limit") (GiTM : FnOk P w K mg base CX0 1 fiTM fdiTM ["self", "limit"] (spI1 cTM "limit")) (biTM : Binds K fdiTM ["self", "limit"] [])
    (m_sum : mg "sum" = none) (m_min : mg "min" = none) (m_range : mg "range" = none) (m_len : mg "len" = none) :
    FnOk P w K mg base (L2.CX P w) 3 f fd ["parts", "post", "count", "limit"] (spCs K cTM) := by
  refine F.okX scCs (fun vs H Q E h => ?_) (fun cdv A outer s H vs Q E hr h => ?_)
  · obtain ⟨pa, post, cnt, lim, vs0, Ps, n, rfl, _⟩ := h; rfl
  · obtain ⟨pa, post, cnt, lim, vs0, Ps, n, rfl, eP, hP, hok, hpost, hn, hlim, hlim2, hlen, q⟩ := h
    refine ⟨_, pss_cons (ps_set (i := 4) scCs.nd rfl (.inl rfl) (pe_lst (pa_nil)))
      (pss_cons (ps_for (passes_of rfl) rfl (pi_list (pv 0)) (pg_tup rfl (pgs_cons (pg_name (i := 5) scCs.nd rfl (.inl rfl)) (pgs_cons (pg_name (i := 6) scCs.nd rfl (.inl rfl)) (pgs_cons (pg_name (i := 7) scCs.nd rfl (.inl rfl)) pgs_nil))))
        (pss_cons (ps_set (i := 8) scCs.nd rfl (.inl rfl) (pe_op op_sub (pv 2) (pe_callB (call_sumTQ rfl) (by rfl) m_sum (by decide +kernel) (pa_cons (pv 6) pa_nil))))
        (pss_cons (ps_asg (pe_ifExp (pt_cmp (pc_isN (pv 1))) (pe_tup (pa_cons (pv 8) (pa_cons (pv 8) pa_nil))) (pe_tup (pa_cons (pe_int) (pa_cons (pe_callB (call_min2 rfl) (by rfl) m_min (by decide +kernel) (pa_cons (pv 8) (pa_cons (pe_ix ix_tup (pv 7) (pv 1) (fun _ _ => rfl)) pa_nil))) pa_nil)))) (pg_tup rfl (pgs_cons (pg_name (i := 9) scCs.nd rfl (.inl rfl)) (pgs_cons (pg_name (i := 10) scCs.nd rfl (.inl rfl)) pgs_nil))))
        (pss_one (ps_for (passes_of rfl) rfl (pi_range2 (by rfl) m_range (pa_cons (pv 9) (pa_cons (pe_op op_add (pv 10) (pe_int)) pa_nil))) (pg_name (i := 11) scCs.nd rfl (.inl rfl))
          (pss_cons (ps_if (pt_cmpR op_ge (pe_callB call_lenQ (by rfl) m_len PySem.boot_len (pa_cons (pv 4) pa_nil)) (pv 3) (nomark _))
            (pss_one (ps_raise rfl (takes_of rfl rfl rfl rfl) (pmk_oex XTM.T XTM.iC XTM.tI GiTM (hr.mono (by omega)) biTM .nil pass0 (by rfl) gTM (pa_cons (pv 3) pa_nil)))) pss_nil)
          (pss_cons (ps_set (i := 12) scCs.nd rfl (.inl rfl) (pe_ifExp (pt_cmp (pc_isN (pv 1))) (pv 7) (pe_call GWI (hr.mono (by omega)) (by rfl) gWI FWI.kp bWI .nil pass0 (pa_cons (pv 7) (pa_cons (pv 1) (pa_cons (pe_op op_sub (pe_ix ix_tup (pv 7) (pv 1) (fun _ _ => rfl)) (pv 11)) pa_nil))))))
          (pss_one (ps_expr (pe_bm PySem.F.plainAttrs_list PySem.F.slot_list_append PySem.F.type_list_append mt_append (pv 4) (pa_cons (pe_tup (pa_cons (pv 5) (pa_cons (pe_op op_catA (pv 6) (pe_tup (pa_cons (pv 11) pa_nil))) (pa_cons (pv 12) pa_nil)))) pa_nil)))))))))))
      (pss_one (ps_ret (pv 4)))), ?_⟩
    obtain ⟨q1, q2⟩ := q
    have sz := small (n := 10000) (by decide)
    have lvs0 : vs0.length = Ps.length := by have := DpAll.len hP; rwa [List.length_map] at this
    refine ⟨Nat.zero_le _, fun Fo nFo => ?_⟩
    have eP' : ∀ H', Same H H' → SqL K H' pa vs0 := fun H' s' => SqL.of (s' _ _ eP)
    refine ⟨.ref pa, rfl, pa, rfl, ⟨_, eP' _ (sameNew nFo)⟩, for_it (walk_list (K := K) (a := pa) (xs := vs0))
      (fun i σ Hi => ∃ (y5 y6 y7 y8 y9 y10 y11 y12 : Option V) (vs : List V), σ = [some (.ref pa), some (oP post), some (.int cnt), some (.int lim), some (.ref Fo), y5, y6, y7, y8, y9, y10, y11, y12] ∧ Same H Hi ∧ Hi Fo = some (.lst vs) ∧ DpAll K Hi vs ((contL post cnt (Ps.take i)).map dPt) ∧ (vs.length : Int) ≤ lim)
      ⟨none, none, none, none, none, none, none, none, [], rfl, sameNew nFo, upd_same, .nil, by simp; omega⟩ (fun i σ Hi _ h => by obtain ⟨_, _, _, _, _, _, _, _, _, _, s, _⟩ := h; exact eP' _ s) ?_ ?_⟩
    · rintro i v σ Hk Hi hlt ⟨y5, y6, y7, y8, y9, y10, y11, y12, vs, rfl, si, eF, hvs, lvs⟩ ⟨rfl, hx⟩
      have hx : vs0[i]? = some v := hx
      obtain ⟨d, hd, hxd⟩ := DpAll.at hP hx
      rw [List.getElem?_map] at hd
      obtain ⟨⟨dn, sh, rm⟩, hxi, rfl⟩ := Option.map_eq_some_iff.mp hd
      have pk := hok _ (List.mem_of_getElem? hxi)
      obtain ⟨p1, p2, p3, p4, p5⟩ := pk
      dsimp only at p1 p2 p3 p4 p5
      obtain ⟨xA, dA, sA, rA, rfl, hXA, hDA, hSA, hRA⟩ := pt_open hxd
      have tki := TupK.of si
      refine ⟨xA, _, rfl, tki.sq hXA, rfl, _, _, rfl, _, _, rfl, _, _, rfl, rfl, ?_⟩
      refine ⟨.int cnt, rfl, .ref sA, rfl, sA, sh, rfl, tki.sq hSA, _, _, rfl, rfl, ?_⟩
      dsimp only
      obtain ⟨rest, hrest⟩ : ∃ rest, cnt - sh.sum = rest := ⟨_, rfl⟩
      rw [hrest] at p5 ⊢
      -- least and most
      have lv0 : (vs.length : Int) ≤ 2000 := by omega
      have stp := contL_take (post := post) (count := cnt) hxi
      have prt := fun {j : Nat} => contL_part (post := post) (count := cnt) hxi (j := j)
      have l2 := DpAll.len hvs
      rw [List.length_map] at l2
      have s0 := tki
      refine (id ?_ : tSeq (tAsg _ _) _ _ _ _)
      refine seq_with (fun σ Hx => ∃ (lo : Int) (m : Nat) (y11 y12 : Option V), σ = [some (.ref pa), some (oP post), some (.int cnt), some (.int lim), some (.ref Fo), some (.ref dA), some (.ref sA), some (.ref rA), some (.int rest), some (.int lo), some (.int (lo + (m : Nat) - 1)), y11, y12] ∧ Same Hi Hx ∧ optN post cnt (dn, sh, rm) = (List.range m).map (fun k : Nat => lo + (k : Int)) ∧ 0 ≤ lo ∧ lo + (m : Nat) ≤ 10 ^ 12 + 1) (fun σ Hx h => ?_) (fun rst => ?_)
      · obtain ⟨lo, m, y11, y12, rfl, sx, eo, lo0, lom⟩ := h
        have eFx := sx _ _ eF
        have hvsx := (TupK.of sx).dpAll _ _ (to_pts _) hvs
        rw [eo] at stp
        refine ⟨.int lo, rfl, .int (lo + (m : Nat) - 1), rfl, _, _, rfl, rfl, lo, lo + (m : Nat) - 1 + 1, rfl, ⟨by omega, by omega, by omega, by omega⟩, for_it (walk_range (lo := lo) (n := (lo + (m : Nat) - 1 + 1 - lo).toNat))
          (fun j σ Hj => ∃ (y11 y12 : Option V) (us : List V), σ = [some (.ref pa), some (oP post), some (.int cnt), some (.int lim), some (.ref Fo), some (.ref dA), some (.ref sA), some (.ref rA), some (.int rest), some (.int lo), some (.int (lo + (m : Nat) - 1)), y11, y12] ∧ Same H Hj ∧ Hj Fo = some (.lst us) ∧ DpAll K Hj us (((contL post cnt (Ps.take i)) ++ ((List.range j).map (fun k : Nat => lo + (k : Int))).map (nextP post (dn, sh, rm))).map dPt) ∧ (us.length : Int) ≤ lim)
          ⟨_, _, vs, rfl, si.trans sx, eFx, by simpa using hvsx, lvs⟩ (fun _ _ _ _ _ => trivial) ?_ ?_⟩
        · rintro j v σ Hk Hj hltj ⟨y11, y12, us, rfl, sj, eFj, hus, lus⟩ ⟨rfl, rfl⟩
          have hjm : j < m := by omega
          have lu := DpAll.len hus
          rw [List.length_map, List.length_append, List.length_map, List.length_map, List.length_range] at lu
          have pr := prt (j := j) (by rw [eo, List.length_map, List.length_range]; exact hjm)
          refine ⟨.ref Fo, rfl, Fo, _, rfl, .inl (SqL.of eFj), .int lim, rfl, _, _, rfl, rfl, _, rfl, ?_⟩
          by_cases hge : lim ≤ (us.length : Int)
          · rw [decide_eq_true hge]
            refine iteT ⟨.int lim, rfl, mkO1 fun dx nd => ?_⟩
            exact q2 (by omega) _ dx sj nd
          · rw [decide_eq_false hge]
            refine iteF ?_
            have tkj := TupK.of sj
            have hDj := tkj.dp _ _ (to_dAsg _) hDA
            have fin : ∀ (lf : V) (H2 : Hp), Same Hj H2 → Dp K H2 lf (dI (leftN post (dn, sh, rm) (lo + (j : Nat)))) → ∀ T H3, Same H2 H3 → SqT K H3 T ((sh ++ [lo + (j : Nat)]).map V.int) → ∀ T2, H3 T2 = none → ∃ acc, (upd H3 T2 (.tup [.ref dA, .ref T, lf])) Fo = some (.lst acc) ∧ acc.length < sizeLine ∧ ∃ (y11 y12 : Option V) (us : List V), [some (.ref pa), some (oP post), some (.int cnt), some (.int lim), some (.ref Fo), some (.ref dA), some (.ref sA), some (.ref rA), some (.int rest), some (.int lo), some (.int (lo + (m : Nat) - 1)), some (.int (lo + (j : Nat))), some lf] = [some (.ref pa), some (oP post), some (.int cnt), some (.int lim), some (.ref Fo), some (.ref dA), some (.ref sA), some (.ref rA), some (.int rest), some (.int lo), some (.int (lo + (m : Nat) - 1)), y11, y12] ∧ Same H (upd (upd H3 T2 (.tup [.ref dA, .ref T, lf])) Fo (.lst (acc ++ [.ref T2]))) ∧ (upd (upd H3 T2 (.tup [.ref dA, .ref T, lf])) Fo (.lst (acc ++ [.ref T2]))) Fo = some (.lst us) ∧ DpAll K (upd (upd H3 T2 (.tup [.ref dA, .ref T, lf])) Fo (.lst (acc ++ [.ref T2]))) us (((contL post cnt (Ps.take i)) ++ ((List.range (j + 1)).map (fun k : Nat => lo + (k : Int))).map (nextP post (dn, sh, rm))).map dPt) ∧ (us.length : Int) ≤ lim := by
              intro lf H2 s2 hlf T H3 s3 hT T2 nT2
              have sT := sameNew (o := .tup [.ref dA, .ref T, lf]) nT2
              have sjT := (s2.trans s3).trans sT
              have eF3 := sjT _ _ eFj
              have tkp := TupK.put (o := .lst (us ++ [.ref T2])) eF3
              refine ⟨us, eF3, small (by omega), _, _, us ++ [.ref T2], rfl, samePut (sj.trans sjT) nFo, upd_same, ?_, by rw [List.length_append]; simp only [List.length_cons, List.length_nil]; omega⟩
              have el : contL post cnt (Ps.take i) ++ ((List.range (j + 1)).map (fun k : Nat => lo + (k : Int))).map (nextP post (dn, sh, rm)) = (contL post cnt (Ps.take i) ++ ((List.range j).map (fun k : Nat => lo + (k : Int))).map (nextP post (dn, sh, rm))) ++ [nextP post (dn, sh, rm) (lo + (j : Nat))] := by rw [List.range_succ]; simp
              rw [el, List.map_append]
              refine DpAll.snoc (((TupK.of sjT).trans tkp).dpAll _ _ (to_pts _) hus) (tkp.dp _ _ (to_dPt _) ?_)
              refine .tup (SqT.of upd_same) (.cons ((TupK.of sjT).dp _ _ (to_dAsg _) hDj) (.cons (dI_sq ((TupK.of sT).sq hT)) (.cons ((TupK.of (s3.trans sT)).dp _ _ (to_dI _) hlf) .nil)))
            have tail : ∀ (lf : V) (H2 : Hp), Same Hj H2 → SqT K H2 sA (sh.map V.int) := fun lf H2 s2 => (TupK.of (sj.trans s2)).sq hSA
            cases post with
            | none =>
              refine ⟨.non, rfl, _, rfl, ?_⟩
              rw [decide_eq_true rfl]
              refine iteT ⟨.ref rA, rfl, ?_⟩
              refine ⟨.ref Fo, rfl, .inl ⟨rfl, _, SqL.of eFj⟩, .ref dA, rfl, .ref sA, rfl, .int (lo + (j : Nat)), rfl, (show (1 : Nat) ≤ sizeLine by decide), fun Tn nTn => ?_⟩
              have sn := sameNew (o := .tup [.int (lo + (j : Nat))]) nTn
              refine cat_eq (tail .non _ sn) (SqT.of upd_same) (Nat.le_of_lt (small (by simp; omega))) fun H3 T s3 hT => ⟨.ref rA, rfl, (show (3 : Nat) ≤ sizeLine by decide), fun T2 nT2 => ?_⟩
              obtain ⟨acc, ea, hs, rr⟩ := fin (.ref rA) _ sn ((TupK.of (sj.trans sn)).dp _ _ (to_dI _) (dI_sq hRA)) T H3 s3 (by have hT' := hT; rw [List.map_append]; exact hT') T2 nT2
              exact ⟨Fo, acc, _, rfl, rfl, ea, hs, rr⟩
            | some p =>
              have hpn := hpost p rfl
              have hpl : p < rm.length := by omega
              have hpv : (rm.map V.int)[p]? = some (.int rm[p]) := by rw [List.getElem?_map, List.getElem?_eq_getElem hpl]; rfl
              have hgd : rm.getD p 0 = rm[p] := by rw [List.getD_eq_getElem?_getD, List.getElem?_eq_getElem hpl]; rfl
              refine ⟨.int p, rfl, _, rfl, ?_⟩
              rw [decide_eq_false (fun y => by cases y)]
              refine iteF ⟨.ref rA, rfl, .int p, rfl, .ref rA, rfl, .int p, rfl, rA, _, _, .int rm[p], rfl, rfl, tkj.sq hRA, atI_nat hpv, .int (lo + (j : Nat)), rfl, _, _, rfl, rfl, ?_⟩
              refine ⟨rA, rm.map V.int, p, .int (rm[p] - (lo + (j : Nat))), rfl, tkj.sq hRA, by rw [List.length_map]; exact hpl, by rw [List.length_map]; omega, fun H2 lA s2 hl => ?_⟩
              rw [← List.map_set] at hl
              have hlD : Dp K H2 (.ref lA) (dI (leftN (some p) (dn, sh, rm) (lo + (j : Nat)))) := by
                show Dp K H2 (.ref lA) (dI (rm.set p (rm.getD p 0 - (lo + (j : Nat)))))
                rw [hgd]; exact dI_sq hl
              refine ⟨.ref Fo, rfl, .inl ⟨rfl, _, SqL.of (s2 _ _ eFj)⟩, .ref dA, rfl, .ref sA, rfl, .int (lo + (j : Nat)), rfl, (show (1 : Nat) ≤ sizeLine by decide), fun Tn nTn => ?_⟩
              have sn := sameNew (o := .tup [.int (lo + (j : Nat))]) nTn
              have s2n := s2.trans sn
              refine cat_eq (tail .non _ s2n) (SqT.of upd_same) (Nat.le_of_lt (small (by simp; omega))) fun H3 T s3 hT => ⟨.ref lA, rfl, (show (3 : Nat) ≤ sizeLine by decide), fun T2 nT2 => ?_⟩
              obtain ⟨acc, ea, hs, rr⟩ := fin (.ref lA) _ s2n ((TupK.of sn).dp _ _ (to_dI _) hlD) T H3 s3 (by have hT' := hT; rw [List.map_append]; exact hT') T2 nT2
              exact ⟨Fo, acc, _, rfl, rfl, ea, hs, rr⟩
        · rintro σ Hj ⟨y11, y12, us, rfl, sj, eFj, hus, lus⟩
          refine ⟨_, _, _, _, _, _, _, _, us, rfl, sj, eFj, ?_, lus⟩
          rw [stp, show m = (lo + (m : Nat) - 1 + 1 - lo).toNat by omega]
          exact hus
      cases post with
      | none =>
        refine ⟨.non, rfl, _, rfl, ?_⟩
        rw [decide_eq_true rfl]
        refine iteT ⟨.int rest, rfl, .int rest, rfl, (show (2 : Nat) ≤ sizeLine by decide), fun T nT => ?_⟩
        refine ⟨T, _, rfl, SqT.of upd_same, rfl, _, _, rfl, _, _, rfl, rfl, ?_⟩
        refine rst _ _ ⟨rest, 1, y11, y12, ?_, sameNew nT, ?_, by omega, by omega⟩
        · rw [show rest + ((1 : Nat) : Int) - 1 = rest by omega]; rfl
        · show [cnt - sh.sum] = _
          rw [hrest]; simp
      | some p =>
        have hpn := hpost p rfl
        have hpl : p < rm.length := by omega
        have hpv : (rm.map V.int)[p]? = some (.int rm[p]) := by rw [List.getElem?_map, List.getElem?_eq_getElem hpl]; rfl
        have hgd : rm.getD p 0 = rm[p] := by rw [List.getD_eq_getElem?_getD, List.getElem?_eq_getElem hpl]; rfl
        have hb := p4 rm[p] (List.getElem_mem hpl)
        refine ⟨.int p, rfl, _, rfl, ?_⟩
        rw [decide_eq_false (fun y => by cases y)]
        refine iteF ⟨.int rest, rfl, .ref rA, rfl, .int p, rfl, rA, _, _, .int rm[p], rfl, rfl, tki.sq hRA, atI_nat hpv, _, _, rfl, (show (2 : Nat) ≤ sizeLine by decide), fun T nT => ?_⟩
        obtain ⟨mo, hmo, mo1, mo2⟩ : ∃ mo : Int, (if rm[p] < rest then rm[p] else rest) = mo ∧ 0 ≤ mo ∧ mo ≤ 10 ^ 12 := ⟨_, rfl, by split <;> omega, by split <;> omega⟩
        have hmin : min rest rm[p] = mo := by rw [← hmo]; split <;> omega
        refine ⟨T, _, rfl, SqT.of upd_same, rfl, _, _, rfl, _, _, rfl, rfl, ?_⟩
        refine rst _ _ ⟨0, (mo + 1).toNat, y11, y12, ?_, sameNew nT, ?_, by omega, by omega⟩
        · rw [show (0 : Int) + ((mo + 1).toNat : Nat) - 1 = mo by omega, ← hmo]; rfl
        · show upTo (min (cnt - sh.sum) (rm.getD p 0) + 1).toNat = _
          rw [hrest, hgd, hmin]
          unfold upTo
          exact List.map_congr_left fun k _ => by omega
    · rintro σ Hi ⟨y5, y6, y7, y8, y9, y10, y11, y12, vs, rfl, si, eF, hvs, lvs⟩
      rw [lvs0, List.take_length] at hvs
      have l2 := DpAll.len hvs
      rw [List.length_map] at l2
      exact ⟨.ref Fo, rfl, q1 (by omega) _ Fo vs si eF hvs⟩
end
end Pv

namespace Pv
open PySem PySem.Spec PyProof.Rows L2
abbrev sAa : Stmt := topS 10
theorem scAa : FnScope ["instance", "limit", "begun", "posts", "count", "parts", "post", "done", "room", "share"] ["instance", "limit"] (defScope sAa) := ⟨rfl, rfl, rfl, by decide +kernel, rfl, by decide +kernel, by decide +kernel⟩
abbrev Bp := List (List Int) × List Int
def dB (b : Bp) : PyData := .tuple [dAsg b.1, dI b.2]
theorem to_dB (x : Bp) : tupOnly (dB x) = true := by simp [dB, tupOnly, tupOnlyAll, to_dAsg, to_dI]
theorem to_bps (l : List Bp) : tupOnlyAll (l.map dB) = true := tupOnlyAll_of fun d hd => by
  obtain ⟨x, _, rfl⟩ := List.mem_map.mp hd
  exact to_dB x
def begPt (b : Bp) : Pt := (b.1, [], b.2)
def closeP (x : Pt) : Bp := (x.1 ++ [x.2.1], x.2.2)
def optsL (g : Gp) : List (Option Nat) := g.1.map (fun p => some p.toNat) ++ [none]
def contAll (c : Int) (P : List Pt) (ps : List (Option Nat)) : List Pt := ps.foldl (fun P p => contL p c P) P
def stepG (B : List Bp) (g : Gp) : List Bp := (contAll g.2 (B.map begPt) (optsL g)).map closeP
def endB (cs : List Int) (gs : List Gp) : Nat → List Bp
  | 0 => [([], cs)]
  | i + 1 => match gs[i]? with
    | some g => stepG (endB cs gs i) g
    | none => endB cs gs i
structure PK (n : Nat) (cnt : Int) (j k : Nat) (x : Pt) : Prop where
  d : x.1.length = j
  s : x.2.1.length = k
  l : x.2.2.length = n
  r : ∀ c ∈ x.2.2, 0 ≤ c ∧ c ≤ 10 ^ 12
  b : 0 ≤ cnt - x.2.1.sum ∧ cnt - x.2.1.sum ≤ 10 ^ 12
theorem PK.ok {n : Nat} {cnt : Int} {j k : Nat} {x : Pt} (h : PK n cnt j k x) (hj : j ≤ 20) (hk : k ≤ 20) : POk n cnt x := ⟨by rw [h.d]; exact hj, by rw [h.s]; exact hk, h.l, h.r, h.b⟩
theorem upTo_mem2 {m : Nat} {x : Int} (h : x ∈ upTo m) : 0 ≤ x ∧ x < m := upTo_mem h
theorem PK.next {n : Nat} {cnt : Int} {j k : Nat} {x : Pt} (h : PK n cnt j k x) {post : Option Nat} (hp : ∀ p, post = some p → p < n) {y : Int} (hy : y ∈ optN post cnt x) : PK n cnt j (k + 1) (nextP post x y) := by
  obtain ⟨d, s, l, r, b⟩ := h
  cases post with
  | none =>
    have e : y = cnt - x.2.1.sum := by simpa [optN] using hy
    exact ⟨d, by show (x.2.1 ++ [y]).length = _; rw [List.length_append, s]; rfl, l, r, by show 0 ≤ cnt - (x.2.1 ++ [y]).sum ∧ _; rw [show (nextP none x y).2.1 = x.2.1 ++ [y] from rfl, List.sum_append]; simp; omega⟩
  | some p =>
    have hpn := hp p rfl
    have hm : y ∈ upTo (min (cnt - x.2.1.sum) (x.2.2.getD p 0) + 1).toNat := hy
    have hm := upTo_mem2 hm
    have hg : x.2.2.getD p 0 ∈ x.2.2 := by
      rw [List.getD_eq_getElem?_getD, List.getElem?_eq_getElem (by omega)]
      exact List.getElem_mem _
    have hr := r _ hg
    refine ⟨d, by show (x.2.1 ++ [y]).length = _; rw [List.length_append, s]; rfl, by show (x.2.2.set p _).length = n; rw [List.length_set]; exact l, fun c hc => ?_, ?_⟩
    · have hc : c ∈ x.2.2.set p (x.2.2.getD p 0 - y) := hc
      rcases List.mem_or_eq_of_mem_set hc with h | h
      · exact r c h
      · omega
    · rw [show (nextP (some p) x y).2.1 = x.2.1 ++ [y] from rfl, List.sum_append]
      simp only [List.sum_cons, List.sum_nil]
      omega
theorem contL_ok {n : Nat} {cnt : Int} {j k : Nat} {P : List Pt} (h : ∀ x ∈ P, PK n cnt j k x) {post : Option Nat} (hp : ∀ p, post = some p → p < n) : ∀ x ∈ contL post cnt P, PK n cnt j (k + 1) x := by
  intro x hx
  obtain ⟨y, hy, hx⟩ := List.mem_flatMap.mp hx
  obtain ⟨z, hz, rfl⟩ := List.mem_map.mp hx
  exact (h y hy).next hp hz
theorem contL_len {n : Nat} {cnt : Int} {j k : Nat} {post : Option Nat} (hp : ∀ p, post = some p → p < n) : ∀ {P : List Pt}, (∀ x ∈ P, PK n cnt j k x) → P.length ≤ (contL post cnt P).length
  | [], _ => Nat.zero_le _
  | x :: P, h => by
    have ih := contL_len hp (P := P) fun y hy => h y (List.mem_cons_of_mem _ hy)
    have h0 := h x List.mem_cons_self
    unfold contL at ih ⊢
    rw [List.flatMap_cons, List.length_append, List.length_map, List.length_cons]
    have : 1 ≤ (optN post cnt x).length := by
      cases post with
      | none => exact Nat.le_refl _
      | some p =>
        have hpn := hp p rfl
        have hg : x.2.2.getD p 0 ∈ x.2.2 := by
          rw [List.getD_eq_getElem?_getD, List.getElem?_eq_getElem (by rw [h0.l]; omega)]
          exact List.getElem_mem _
        have hr := h0.r _ hg
        have hb := h0.b
        show 1 ≤ (upTo _).length
        rw [upTo_len]
        omega
    omega
theorem contAll_ok {n : Nat} {cnt : Int} {j : Nat} : ∀ {ps : List (Option Nat)} {k : Nat} {P : List Pt}, (∀ p ∈ ps, ∀ q, p = some q → q < n) → (∀ x ∈ P, PK n cnt j k x) → (∀ x ∈ contAll cnt P ps, PK n cnt j (k + ps.length) x) ∧ P.length ≤ (contAll cnt P ps).length
  | [], k, P, _, h => ⟨h, Nat.le_refl _⟩
  | p :: ps, k, P, hp, h => by
    have h1 := contL_ok h (hp p List.mem_cons_self)
    have h2 := contL_len (hp p List.mem_cons_self) h
    obtain ⟨a, b⟩ := contAll_ok (ps := ps) (fun q hq => hp q (List.mem_cons_of_mem _ hq)) h1
    refine ⟨fun x hx => ?_, Nat.le_trans h2 b⟩
    have := a x hx
    rw [List.length_cons, show k + (ps.length + 1) = k + 1 + ps.length by omega]
    exact this
theorem contAll_app (cnt : Int) (P : List Pt) (a b : List (Option Nat)) : contAll cnt P (a ++ b) = contAll cnt (contAll cnt P a) b := by
  unfold contAll; rw [List.foldl_append]
structure BK (n j : Nat) (b : Bp) : Prop where
  d : b.1.length = j
  l : b.2.length = n
  r : ∀ c ∈ b.2, 0 ≤ c ∧ c ≤ 10 ^ 12
theorem BK.beg {n j : Nat} {b : Bp} (h : BK n j b) {cnt : Int} (hc : 0 ≤ cnt ∧ cnt ≤ 10 ^ 12) : PK n cnt j 0 (begPt b) := ⟨h.d, rfl, h.l, h.r, by show 0 ≤ cnt - ([] : List Int).sum ∧ cnt - ([] : List Int).sum ≤ 10 ^ 12; simp; omega⟩
theorem PK.close {n : Nat} {cnt : Int} {j k : Nat} {x : Pt} (h : PK n cnt j k x) : BK n (j + 1) (closeP x) := ⟨by show (x.1 ++ [x.2.1]).length = _; rw [List.length_append, h.d]; rfl, h.l, h.r⟩
structure AllIn (cs : List Int) (gs : List Gp) : Prop where
  c : ∀ x ∈ cs, 0 ≤ x ∧ x ≤ 10 ^ 12
  lc : cs.length ≤ 6
  lg : gs.length ≤ 10
  g : ∀ g ∈ gs, g.1.length ≤ 6 ∧ (∀ p ∈ g.1, 0 ≤ p ∧ p < (cs.length : Int)) ∧ 0 ≤ g.2 ∧ g.2 ≤ 10 ^ 12
theorem opts_in {n : Nat} {g : Gp} (h : ∀ p ∈ g.1, 0 ≤ p ∧ p < (n : Int)) : ∀ p ∈ optsL g, ∀ q, p = some q → q < n := by
  intro p hp q e
  subst e
  rcases List.mem_append.mp hp with h' | h'
  · obtain ⟨x, hx, e⟩ := List.mem_map.mp h'
    have := h x hx
    have e := Option.some.inj e
    omega
  · simp at h'
theorem stepG_ok {n j : Nat} {B : List Bp} {g : Gp} (hB : ∀ b ∈ B, BK n j b) (hg : ∀ p ∈ g.1, 0 ≤ p ∧ p < (n : Int)) (hc : 0 ≤ g.2 ∧ g.2 ≤ 10 ^ 12) : (∀ b ∈ stepG B g, BK n (j + 1) b) ∧ B.length ≤ (stepG B g).length := by
  have h0 : ∀ x ∈ B.map begPt, PK n g.2 j 0 x := fun x hx => by
    obtain ⟨b, hb, rfl⟩ := List.mem_map.mp hx
    exact (hB b hb).beg hc
  obtain ⟨a, b⟩ := contAll_ok (opts_in hg) h0
  refine ⟨fun x hx => ?_, ?_⟩
  · obtain ⟨y, hy, rfl⟩ := List.mem_map.mp hx
    exact (a y hy).close
  · unfold stepG
    rw [List.length_map]
    rwa [List.length_map] at b
theorem endB_ok {cs : List Int} {gs : List Gp} (h : AllIn cs gs) : ∀ j, j ≤ gs.length → ∀ b ∈ endB cs gs j, BK cs.length j b
  | 0, _ => fun b hb => by
    have e : b = ([], cs) := by simpa [endB] using hb
    subst e
    exact ⟨rfl, rfl, h.c⟩
  | j + 1, hj => by
    have ih := endB_ok h j (by omega)
    have e : gs[j]? = some gs[j] := List.getElem?_eq_getElem (by omega)
    have hg := h.g _ (List.getElem_mem (by omega : j < gs.length))
    unfold endB
    rw [e]
    exact (stepG_ok ih hg.2.1 hg.2.2).1
theorem endB_up {cs : List Int} {gs : List Gp} (h : AllIn cs gs) {j : Nat} (hj : j < gs.length) : (endB cs gs j).length ≤ (endB cs gs (j + 1)).length := by
  have e : gs[j]? = some gs[j] := List.getElem?_eq_getElem hj
  have hg := h.g _ (List.getElem_mem hj)
  have ih := endB_ok h j (by omega)
  rw [show endB cs gs (j + 1) = stepG (endB cs gs j) gs[j] by rw [endB, e]]
  exact (stepG_ok ih hg.2.1 hg.2.2).2
theorem endB_mono {cs : List Int} {gs : List Gp} (h : AllIn cs gs) : ∀ {i j : Nat}, i ≤ j → j ≤ gs.length → (endB cs gs i).length ≤ (endB cs gs j).length
  | i, 0, hi, _ => by rw [show i = 0 by omega]; exact Nat.le_refl _
  | i, j + 1, hi, hj => by
    by_cases e : i = j + 1
    · rw [e]; exact Nat.le_refl _
    · exact Nat.le_trans (endB_mono h (by omega : i ≤ j) (by omega)) (endB_up h (by omega))
section
variable {P : Program} {w : World} {K : PySem.W.Frag} {mg : Str → Option Value} {base : Heap}
theorem bp_open {H : Hp} {v : V} {x : Bp} (h : Dp K H v (dB x)) : ∃ a d r, v = .ref a ∧ SqT K H a [.ref d, .ref r] ∧ Dp K H (.ref d) (dAsg x.1) ∧ SqT K H r (x.2.map V.int) := by
  unfold dB at h
  cases h with
  | tup h1 h2 =>
    cases h2 with
    | cons a1 h2 =>
      cases h2 with
      | cons a3 h2 =>
        cases h2
        obtain ⟨r, rfl, hr⟩ := dI_ref a3
        obtain ⟨d, _, rfl, _⟩ := asg_open a1
        exact ⟨_, d, r, rfl, h1, a1, hr⟩
def spAa (K : PySem.W.Frag) (C : Addr) : Sp := fun vs H Q E => ∃ (i : Addr) (cs : List Int) (gs : List Gp) (lim : Int), vs = [.ref i, .int lim] ∧ Dp K H (.ref i) (dInst cs gs) ∧ AllIn cs gs ∧ 1 ≤ lim ∧ lim ≤ 2000 ∧
  (((endB cs gs gs.length).length : Int) ≤ lim → ∀ H' p us, Same H H' → H' p = some (.tup us) → DpAll K H' us ((endB cs gs gs.length).map fun b => dAsg b.1) → Q (.ref p) H') ∧
  (lim < ((endB cs gs gs.length).length : Int) → ∀ H' dx, Same H H' → H' dx = none → E (.ref C) (some dx) (upd H' dx (.xd [("limit", .int lim)])))
set_option maxHeartbeats 8000000 in
theorem ok_Aa {f fCs : Addr} {fd fdCs : FuncData} (F : Fun K "all_assignments" "all_assignments" sAa f fd)
    (FCs : Fun K "continued_shares" "continued_shares" sCs fCs fdCs) (bCs : Binds K fdCs ["parts", "post", "count", "limit"] []) (gCs : mg "continued_shares" = some (.ref fCs)) (GCs : FnOk P w K mg base (L2.CX P w) 3 fCs fdCs ["parts", "post", "count", "limit"] (spCs K cTM))
    (m_tuple : mg "tuple" = none) :
    FnOk P w K mg base (L2.CX P w) 4 f fd ["instance", "limit"] (spAa K cTM) := by
  refine F.okX scAa (fun vs H Q E h => ?_) (fun cdv A outer s H vs Q E hr h => ?_)
  · obtain ⟨i, cs, gs, lim, rfl, _⟩ := h; rfl
  · obtain ⟨i, cs, gs, lim, rfl, hI, ok, hlim, hlim2, q⟩ := h
    refine ⟨_, pss_cons (ps_set (i := 2) scAa.nd rfl (.inl rfl) (pe_lst (pa_cons (pe_tup (pa_cons (pe_tup (pa_nil)) (pa_cons (pe_ix ix_tup (pv 0) (pe_int) (fun _ _ => rfl)) pa_nil))) pa_nil)))
      (pss_cons (ps_for (passes_of rfl) rfl (pi_tup (pe_ix ix_tup (pv 0) (pe_int) (fun _ _ => rfl))) (pg_tup rfl (pgs_cons (pg_name (i := 3) scAa.nd rfl (.inl rfl)) (pgs_cons (pg_name (i := 4) scAa.nd rfl (.inl rfl)) pgs_nil)))
        (pss_cons (ps_setLc (i := 5) (own := [("done", 7), ("room", 8)]) (g := gTup K 2 (gCons (gName 7) (gCons (gName 8) gNil))) (tt := tYes) (te := tTup (tCons (tVar 7) (tCons (tTup (tNil)) (tCons (tVar 8) tNil)))) rfl scAa.nd rfl rfl (sw_true rfl rfl rfl (by decide +kernel)) (pi_list (pv 2)) (blkOk_by (N := ["instance", "limit", "begun", "posts", "count", "parts", "post", "done", "room", "share"]) (sc := defScope sAa) (by decide +kernel)) (fun _ _ _ _ _ => pg_tup rfl (pgs_cons (pg_name (i := 7) scAa.nd rfl (.inl rfl)) (pgs_cons (pg_name (i := 8) scAa.nd rfl (.inl rfl)) pgs_nil))) (fun _ _ _ _ _ => pts_nil) (fun _ _ _ _ _ => pe_tup (pa_cons (pv 7) (pa_cons (pe_tup (pa_nil)) (pa_cons (pv 8) pa_nil)))))
        (pss_cons (ps_for (passes_of rfl) rfl (pi_tup (pe_op op_catA (pv 3) (pe_tup (pa_cons (pe_non) pa_nil)))) (pg_name (i := 6) scAa.nd rfl (.inl rfl))
          (pss_one (ps_set (i := 5) scAa.nd rfl (.inl rfl) (pe_callS GCs (hr.mono (by omega)) rfl gCs FCs.kp bCs (fun σ => passAt (takes_of rfl rfl rfl rfl) σ) (pa_cons (pv 5) (pa_cons (pv 6) (pa_cons (pv 4) (pa_cons (pv 1) pa_nil))))))))
        (pss_one (ps_setLc (i := 2) (own := [("done", 7), ("share", 9), ("room", 8)]) (g := gTup K 3 (gCons (gName 7) (gCons (gName 9) (gCons (gName 8) gNil)))) (tt := tYes) (te := tTup (tCons (tOp (rCatA K) (tVar 7) (tTup (tCons (tVar 9) tNil))) (tCons (tVar 8) tNil))) rfl scAa.nd rfl rfl (sw_true rfl rfl rfl (by decide +kernel)) (pi_list (pv 5)) (blkOk_by (N := ["instance", "limit", "begun", "posts", "count", "parts", "post", "done", "room", "share"]) (sc := defScope sAa) (by decide +kernel)) (fun _ _ _ _ _ => pg_tup rfl (pgs_cons (pg_name (i := 7) scAa.nd rfl (.inl rfl)) (pgs_cons (pg_name (i := 9) scAa.nd rfl (.inl rfl)) (pgs_cons (pg_name (i := 8) scAa.nd rfl (.inl rfl)) pgs_nil)))) (fun _ _ _ _ _ => pts_nil) (fun _ _ _ _ _ => pe_tup (pa_cons (pe_op op_catA (pv 7) (pe_tup (pa_cons (pv 9) pa_nil))) (pa_cons (pv 8) pa_nil))))))))
      (pss_one (ps_ret (pe_callTy call_tupQ (by rfl) m_tuple (by decide +kernel) (pa_cons (pe_lc (own := [("done", 7), ("room", 8)]) (g := gTup K 2 (gCons (gName 7) (gCons (gName 8) gNil))) (tt := tYes) (te := tVar 7) rfl scAa.nd (pi_list (pv 2)) (blkOk_by (N := ["instance", "limit", "begun", "posts", "count", "parts", "post", "done", "room", "share"]) (sc := defScope sAa) (by decide +kernel)) (fun _ _ _ _ _ => pg_tup rfl (pgs_cons (pg_name (i := 7) scAa.nd rfl (.inl rfl)) (pgs_cons (pg_name (i := 8) scAa.nd rfl (.inl rfl)) pgs_nil))) (fun _ _ _ _ _ => pts_nil) (fun _ _ _ _ _ => pv 7)) pa_nil))))), ?_⟩
    obtain ⟨q1, q2⟩ := q
    obtain ⟨_, ca, ga, xs, e, hi, hc, hg, hgs⟩ := inst_open hI
    cases e
    have lxs : xs.length = gs.length := by have := DpAll.len hgs; rwa [List.length_map] at this
    have one : (1 : Nat) ≤ sizeLine := by decide
    have two : (2 : Nat) ≤ sizeLine := by decide
    have three : (3 : Nat) ≤ sizeLine := by decide
    have sz := small (n := 10000) (by decide)
    have lg := ok.lg
    -- the empty beginning
    refine ⟨Nat.zero_le _, fun T0 nT0 => ⟨.ref i, rfl, i, _, 0, .ref ca, rfl, rfl, sqS (sameNew nT0) hi, atI_nat (j := 0) rfl, two, fun T1 nT1 => ⟨one, fun L0 nL0 => ?_⟩⟩⟩
    have s0 := ((sameNew (o := .tup []) nT0).trans (sameNew (o := .tup [.ref T0, .ref ca]) nT1)).trans (sameNew (o := .lst [.ref T1]) nL0)
    have hT0 : Dp K (upd (upd (upd H T0 (.tup [])) T1 (.tup [.ref T0, .ref ca])) L0 (.lst [.ref T1])) (.ref T1) (dB ([], cs)) := by
      refine .tup ((TupK.of (sameNew nL0)).sq (SqT.of upd_same)) (.cons (.tup ((TupK.of ((sameNew nT1).trans (sameNew nL0))).sq (SqT.of upd_same)) .nil) (.cons (dI_sq (sqS s0 hc)) .nil))
    have e0 : (upd (upd (upd H T0 (.tup [])) T1 (.tup [.ref T0, .ref ca])) L0 (.lst [.ref T1])) L0 = some (.lst [.ref T1]) := upd_same
    generalize upd (upd (upd H T0 (.tup [])) T1 (.tup [.ref T0, .ref ca])) L0 (.lst [.ref T1]) = H0 at s0 hT0 e0 ⊢
    refine ⟨.ref i, rfl, i, _, 1, .ref ga, rfl, rfl, sqS s0 hi, atI_nat (j := 1) rfl, ga, rfl, ⟨_, sqS s0 hg⟩, for_it (walk_tup (K := K) (a := ga) (xs := xs))
      (fun j σ Hj => ∃ (y3 y4 y5 y6 : Option V) (Bg : Addr) (vs : List V), σ = [some (.ref i), some (.int lim), some (.ref Bg), y3, y4, y5, y6, none, none, none] ∧ Same H Hj ∧ Hj Bg = some (.lst vs) ∧ DpAll K Hj vs ((endB cs gs j).map dB) ∧ ((endB cs gs j).length : Int) ≤ lim)
      ⟨none, none, none, none, L0, _, rfl, s0, e0, .cons hT0 .nil, by simp [endB]; omega⟩ (fun j σ Hj _ h => by obtain ⟨_, _, _, _, _, _, _, s, _⟩ := h; exact sqS s hg) ?_ ?_⟩
    · rintro j v σ Hk Hj hlt ⟨y3, y4, y5, y6, Bg, vs, rfl, sj, eB, hvs, lB⟩ ⟨rfl, hx⟩
      have hx : xs[j]? = some v := hx
      obtain ⟨d, hd, hxd⟩ := DpAll.at hgs hx
      rw [List.getElem?_map] at hd
      obtain ⟨g, hgj, rfl⟩ := Option.map_eq_some_iff.mp hd
      obtain ⟨gA, pA, rfl, hG, hP⟩ := grp_ref hxd
      obtain ⟨go1, go2, go3, go4⟩ := ok.g g (List.mem_of_getElem? hgj)
      have hjl : j < gs.length := (List.getElem?_eq_some_iff.mp hgj).1
      have bk := endB_ok ok j (by omega)
      have lvs := DpAll.len hvs
      rw [List.length_map] at lvs
      have eS : endB cs gs (j + 1) = stepG (endB cs gs j) g := by rw [endB, hgj]
      have hup := endB_mono ok (show j + 1 ≤ gs.length by omega) (Nat.le_refl _)
      refine ⟨gA, _, rfl, sqS sj hG, rfl, _, _, rfl, _, _, rfl, rfl, ?_⟩
      obtain ⟨B, hB⟩ : ∃ B, endB cs gs j = B := ⟨_, rfl⟩
      rw [hB] at hvs lB bk lvs eS
      -- parts
      refine ⟨.ref Bg, rfl, Bg, rfl, ⟨_, SqL.of eB⟩, fun D nD => lc_it (walk_list (K := K) (a := Bg) (xs := vs)) (LcR (fun H v b => Dp K H v (dPt (begPt b))) Hj D B (fun b => some b)) (.start nD) (fun m Hm _ h => SqL.of (h.1 _ _ eB)) ?_ ?_⟩
      · rintro m x Hm Hn hm hL ⟨rfl, hxm⟩
        have hxm : vs[m]? = some x := hxm
        obtain ⟨d, hd, hxd⟩ := DpAll.at ((TupK.of hL.1).dpAll _ _ (to_bps _) hvs) hxm
        rw [List.getElem?_map] at hd
        obtain ⟨b, hbm, rfl⟩ := Option.map_eq_some_iff.mp hd
        have hml := (List.getElem?_eq_some_iff.mp hbm).1
        obtain ⟨bA, dA, rA, rfl, hb1, hb2, hb3⟩ := bp_open hxd
        refine ⟨bA, _, rfl, hb1, rfl, _, _, rfl, _, _, rfl, rfl, rfl, ?_⟩
        refine ⟨.ref dA, rfl, Nat.zero_le _, fun Ta nTa => ⟨.ref rA, rfl, three, fun T nT => ?_⟩⟩
        have sa := sameNew (o := .tup []) nTa
        have st := sa.trans (sameNew (o := .tup [.ref dA, .ref Ta, .ref rA]) nT)
        refine hL.yes (fun H H' v b tk h => tk.dp _ _ (to_dPt _) h) nD st hbm rfl ?_ (by omega)
        exact .tup (SqT.of upd_same) (.cons ((TupK.of st).dp _ _ (to_dAsg _) hb2) (.cons (.tup ((TupK.of (sameNew nT)).sq (SqT.of upd_same)) .nil) (.cons (dI_sq ((TupK.of st).sq hb3)) .nil)))
      rintro H1 hL
      obtain ⟨vr, er, hvr⟩ := hL.done (by omega)
      rw [List.filterMap_some] at hvr
      have hvr := rl_dp (f := fun b => dPt (begPt b)) hvr
      rw [show B.map (fun b => dPt (begPt b)) = (B.map begPt).map dPt by rw [List.map_map]; rfl] at hvr
      have s1 := sj.trans hL.1
      -- all options
      refine ⟨.ref pA, rfl, one, fun Tn nTn => ?_⟩
      have sn := sameNew (o := .tup [.non]) nTn
      refine cat_eq (sqS (s1.trans sn) hP) (SqT.of upd_same) (Nat.le_of_lt (small (by simp; omega))) fun H2 T s2 hT => ?_
      have hT : SqT K H2 T ((optsL g).map oP) := by
        rw [show (optsL g).map oP = g.1.map V.int ++ [.non] by
          unfold optsL
          rw [List.map_append, List.map_map]
          congr 1
          exact List.map_congr_left fun p hp => by
            have := go2 p hp
            show V.int ((p.toNat : Nat) : Int) = V.int p
            rw [show ((p.toNat : Nat) : Int) = p by omega]]
        exact hT
      have s12 := sn.trans s2
      have h0 : ∀ x ∈ B.map begPt, PK cs.length g.2 j 0 x := fun x hx => by
        obtain ⟨b, hb, rfl⟩ := List.mem_map.mp hx
        exact (bk b hb).beg ⟨go3, go4⟩
      have lo : (optsL g).length = g.1.length + 1 := by unfold optsL; simp
      have inO := opts_in (n := cs.length) go2
      have tot : (stepG B g).length = (contAll g.2 (B.map begPt) (optsL g)).length := by unfold stepG; rw [List.length_map]
      refine ⟨T, rfl, ⟨_, hT⟩, for_it (walk_tup (K := K) (a := T) (xs := (optsL g).map oP))
        (fun k σ Hk => ∃ (y6 : Option V) (Pa : Addr) (us : List V), σ = [some (.ref i), some (.int lim), some (.ref Bg), some (.ref pA), some (.int g.2), some (.ref Pa), y6, none, none, none] ∧ Same H2 Hk ∧ Hk Pa = some (.lst us) ∧ DpAll K Hk us ((contAll g.2 (B.map begPt) ((optsL g).take k)).map dPt) ∧ ((contAll g.2 (B.map begPt) ((optsL g).take k)).length : Int) ≤ lim)
        ⟨_, D, vr, rfl, Same.refl _, s12 _ _ er, (TupK.of s12).dpAll _ _ (to_pts _) hvr, by show ((B.map begPt).length : Int) ≤ lim; rw [List.length_map]; exact lB⟩ (fun k σ Hk _ h => by obtain ⟨_, _, _, _, s, _⟩ := h; exact (TupK.of s).sq hT) ?_ ?_⟩
      · rintro k v σ Hx Hy hltk ⟨y6, Pa, us, rfl, sk, ePa, hus, lP⟩ ⟨rfl, hxk⟩
        have hxk : ((optsL g).map oP)[k]? = some v := hxk
        rw [List.getElem?_map] at hxk
        obtain ⟨o, ho, rfl⟩ := Option.map_eq_some_iff.mp hxk
        have hkl := (List.getElem?_eq_some_iff.mp ho).1
        have inT : ∀ p ∈ (optsL g).take k, ∀ q, p = some q → q < cs.length := fun p hp => inO p (List.mem_of_mem_take hp)
        obtain ⟨pk, _⟩ := contAll_ok inT h0
        have eN : contAll g.2 (B.map begPt) ((optsL g).take (k + 1)) = contL o g.2 (contAll g.2 (B.map begPt) ((optsL g).take k)) := by
          rw [take_snoc ho, contAll_app]; rfl
        have eD : contAll g.2 (B.map begPt) (optsL g) = contAll g.2 (contAll g.2 (B.map begPt) ((optsL g).take (k + 1))) ((optsL g).drop (k + 1)) := by
          rw [← contAll_app, List.take_append_drop]
        have ltk : ((optsL g).take k).length = k := by rw [List.length_take]; omega
        obtain ⟨pk1, _⟩ := contAll_ok (fun p hp => inO p (List.mem_of_mem_take hp) : ∀ p ∈ (optsL g).take (k + 1), ∀ q, p = some q → q < cs.length) h0
        obtain ⟨_, up⟩ := contAll_ok (fun p hp => inO p (List.mem_of_mem_drop hp) : ∀ p ∈ (optsL g).drop (k + 1), ∀ q, p = some q → q < cs.length) pk1
        rw [← eD] at up
        refine ⟨.ref Pa, rfl, oP o, rfl, .int g.2, rfl, .int lim, rfl, Pa, o, g.2, lim, us, _, cs.length, rfl, ePa, hus, fun x hx => (pk x hx).ok (by omega) (by rw [ltk]; omega), inO o (List.mem_of_getElem? ho), ok.lc, hlim, hlim2, by omega, fun hle H' p ws s' ep hws => ?_, fun hgt H' dx s' ndx => ?_⟩
        · rw [← eN] at hle hws
          exact ⟨_, p, ws, rfl, sk.trans s', ep, hws, hle⟩
        · rw [← eN] at hgt
          refine q2 (by rw [eS] at hup; omega) H' dx ((s1.trans s12).trans (sk.trans s')) ndx
      · rintro σ Hx ⟨y6, Pa, us, rfl, sx, ePa, hus, lP⟩
        rw [List.length_map, List.take_length] at hus lP
        have lus := DpAll.len hus
        rw [List.length_map] at lus
        obtain ⟨P', hP'⟩ : ∃ P', contAll g.2 (B.map begPt) (optsL g) = P' := ⟨_, rfl⟩
        obtain ⟨pk, _⟩ := contAll_ok inO h0
        rw [hP'] at hus lP lus pk tot
        have sHx := (s1.trans s12).trans sx
        refine ⟨.ref Pa, rfl, Pa, rfl, ⟨_, SqL.of ePa⟩, fun F nF => lc_it (walk_list (K := K) (a := Pa) (xs := us)) (LcR (fun H v x => Dp K H v (dB (closeP x))) Hx F P' (fun x => some x)) (.start nF) (fun m Hm _ h => SqL.of (h.1 _ _ ePa)) ?_ ?_⟩
        · rintro m x Hm Hn hm hL ⟨rfl, hxm⟩
          have hxm : us[m]? = some x := hxm
          obtain ⟨d, hd, hxd⟩ := DpAll.at ((TupK.of hL.1).dpAll _ _ (to_pts _) hus) hxm
          rw [List.getElem?_map] at hd
          obtain ⟨b, hbm, rfl⟩ := Option.map_eq_some_iff.mp hd
          have hml := (List.getElem?_eq_some_iff.mp hbm).1
          obtain ⟨xA, dA, sA, rA, rfl, hb1, hb2, hb3, hb4⟩ := pt_open hxd
          have pb := pk b (List.mem_of_getElem? hbm)
          obtain ⟨dA', as, e, hAa, hAs⟩ := asg_open hb2
          cases e
          have las : as.length = b.1.length := by have := DpAll.len hAs; rwa [List.length_map] at this
          have pbd := pb.d
          refine ⟨xA, _, rfl, hb1, rfl, _, _, rfl, _, _, rfl, _, _, rfl, rfl, rfl, ?_⟩
          refine ⟨.ref dA, rfl, .ref sA, rfl, one, fun Ta nTa => ?_⟩
          have sa := sameNew (o := .tup [.ref sA]) nTa
          refine cat_eq ((TupK.of sa).sq hAa) (SqT.of upd_same) (Nat.le_of_lt (small (by simp; omega))) fun Hq pq sq hq => ⟨.ref rA, rfl, two, fun T nT => ?_⟩
          have st := (sa.trans sq).trans (sameNew (o := .tup [.ref pq, .ref rA]) nT)
          refine hL.yes (fun H H' v b tk h => tk.dp _ _ (to_dB _) h) nF st hbm rfl ?_ (by omega)
          refine .tup (SqT.of upd_same) (.cons (.tup ((TupK.of (sameNew nT)).sq hq) ?_) (.cons (dI_sq ((TupK.of st).sq hb4)) .nil))
          rw [show (closeP b).1 = b.1 ++ [b.2.1] from rfl, List.map_append]
          exact DpAll.snoc ((TupK.of st).dpAll _ _ (to_rows _) hAs) (dI_sq ((TupK.of st).sq hb3))
        rintro H4 hL
        obtain ⟨wr, er4, hwr⟩ := hL.done (by omega)
        rw [List.filterMap_some] at hwr
        have hwr := rl_dp (f := fun x => dB (closeP x)) hwr
        refine ⟨_, _, _, _, F, wr, rfl, sHx.trans hL.1, er4, ?_, ?_⟩
        · rw [eS]
          unfold stepG
          rw [hP', List.map_map]
          exact hwr
        · rw [eS, tot]; exact lP
    · rintro σ Hj ⟨y3, y4, y5, y6, Bg, vs, rfl, sj, eB, hvs, lB⟩
      rw [lxs] at hvs lB
      have lvs := DpAll.len hvs
      rw [List.length_map] at lvs
      refine ⟨.ref Bg, rfl, Bg, rfl, ⟨_, SqL.of eB⟩, fun D nD => lc_it (walk_list (K := K) (a := Bg) (xs := vs)) (LcR (fun H v (b : Bp) => Dp K H v (dAsg b.1)) Hj D (endB cs gs gs.length) (fun b => some b)) (.start nD) (fun m Hm _ h => SqL.of (h.1 _ _ eB)) ?_ ?_⟩
      · rintro m x Hm Hn hm hL ⟨rfl, hxm⟩
        have hxm : vs[m]? = some x := hxm
        obtain ⟨d, hd, hxd⟩ := DpAll.at ((TupK.of hL.1).dpAll _ _ (to_bps _) hvs) hxm
        rw [List.getElem?_map] at hd
        obtain ⟨b, hbm, rfl⟩ := Option.map_eq_some_iff.mp hd
        have hml := (List.getElem?_eq_some_iff.mp hbm).1
        obtain ⟨bA, dA, rA, rfl, hb1, hb2, hb3⟩ := bp_open hxd
        refine ⟨bA, _, rfl, hb1, rfl, _, _, rfl, _, _, rfl, rfl, rfl, .ref dA, rfl, ?_⟩
        exact hL.yes (fun H H' v b tk h => tk.dp _ _ (to_dAsg _) h) nD (Same.refl _) hbm rfl hb2 (by omega)
      rintro H1 hL
      obtain ⟨vr, er, hvr⟩ := hL.done (by omega)
      rw [List.filterMap_some] at hvr
      have hvr := rl_dp (f := fun b : Bp => dAsg b.1) hvr
      refine ⟨D, _, rfl, .inl ⟨SqL.of er, fun Tc nTc => ?_⟩⟩
      have sT := sameNew (o := .tup vr) nTc
      refine q1 lB _ Tc vr ((sj.trans hL.1).trans sT) upd_same ((TupK.of sT).dpAll _ _ (tupOnlyAll_of fun d hd => by obtain ⟨x, _, rfl⟩ := List.mem_map.mp hd; exact to_dAsg _) hvr)
end
end Pv

namespace Pv
open PySem PySem.Spec PyProof.Rows L2
def takeOff (rm : List Int) (p : Nat) (k : Int) : List Int := rm.set p (rm.getD p 0 - k)
def fitRow : List Int → List Int → List Int → Bool
  | rm, p :: ps, k :: r => decide (k ≤ rm.getD p.toNat 0) && fitRow (takeOff rm p.toNat k) ps r
  | _, _, _ => true
def leaveRow : List Int → List Int → List Int → List Int
  | rm, p :: ps, k :: r => leaveRow (takeOff rm p.toNat k) ps r
  | rm, _, _ => rm
theorem contL_app (o : Option Nat) (c : Int) (a b : List Pt) : contL o c (a ++ b) = contL o c a ++ contL o c b := by
  unfold contL; rw [List.flatMap_append]
theorem contAll_two (c : Int) : ∀ (ps : List (Option Nat)) (a b : List Pt), contAll c (a ++ b) ps = contAll c a ps ++ contAll c b ps
  | [], _, _ => rfl
  | o :: ps, a, b => by
    show contAll c (contL o c (a ++ b)) ps = _
    rw [contL_app, contAll_two c ps]; rfl
theorem contAll_nil (c : Int) : ∀ (ps : List (Option Nat)), contAll c [] ps = []
  | [] => rfl
  | _ :: ps => contAll_nil c ps
theorem contAll_flat (c : Int) (ps : List (Option Nat)) : ∀ (P : List Pt), contAll c P ps = P.flatMap fun x => contAll c [x] ps
  | [] => contAll_nil c ps
  | x :: P => by
    rw [show x :: P = [x] ++ P from rfl, contAll_two, contAll_flat c ps P]; simp
theorem flat_range {α : Type} {f : Nat → List α} {m : Nat} : ∀ {a : Nat}, m ≤ a → (∀ k, m ≤ k → k < a → f k = []) → (List.range a).flatMap f = (List.range m).flatMap f
  | 0, h, _ => by rw [show m = 0 by omega]
  | a + 1, h, hf => by
    by_cases e : m = a + 1
    · rw [e]
    · rw [List.range_succ, List.flatMap_append, flat_range (by omega : m ≤ a) (fun k h1 h2 => hf k h1 (by omega)), List.flatMap_cons, hf a (by omega) (by omega)]
      simp
theorem flat_congr {α β : Type} {l : List α} {f g : α → List β} (h : ∀ x ∈ l, f x = g x) : l.flatMap f = l.flatMap g := by
  induction l with
  | nil => rfl
  | cons x l ih =>
    rw [List.flatMap_cons, List.flatMap_cons, h x List.mem_cons_self, ih fun y hy => h y (List.mem_cons_of_mem _ hy)]
theorem contAll_rows (cnt : Int) (d : List (List Int)) : ∀ (ps : List Int) (s rm : List Int), (∀ p ∈ ps, 0 ≤ p) → (∀ c ∈ rm, 0 ≤ c) → 0 ≤ cnt - s.sum →
    contAll cnt [(d, s, rm)] (ps.map (fun p => some p.toNat) ++ [none]) = ((rowsL ps.length (cnt - s.sum).toNat).filter (fitRow rm ps)).map fun r => (d, s ++ r, leaveRow rm ps r)
  | [], s, rm, _, _, hb => by
    show contL none cnt [(d, s, rm)] = _
    simp only [contL, optN, List.flatMap_cons, List.flatMap_nil, List.append_nil, List.map_cons, List.map_nil, nextP, leftN, List.length_nil, rowsL, List.filter_cons, fitRow, List.filter_nil, if_true, leaveRow]
    rw [show (((cnt - s.sum).toNat : Nat) : Int) = cnt - s.sum by omega]
  | p :: ps, s, rm, hp, hr, hb => by
    have hg : 0 ≤ rm.getD p.toNat 0 := by
      rw [List.getD_eq_getElem?_getD]
      cases e : rm[p.toNat]? with
      | none => exact Int.le_refl _
      | some c => exact hr c (List.mem_of_getElem? e)
    show contAll cnt (contL (some p.toNat) cnt [(d, s, rm)]) (ps.map (fun p => some p.toNat) ++ [none]) = _
    rw [contAll_flat]
    unfold contL
    rw [List.flatMap_cons, List.flatMap_nil, List.append_nil]
    rw [List.flatMap_map]
    show (upTo (min (cnt - s.sum) (rm.getD p.toNat 0) + 1).toNat).flatMap _ = _
    unfold upTo
    rw [List.flatMap_map, List.length_cons]
    rw [show rowsL (ps.length + 1) (cnt - s.sum).toNat = (List.range ((cnt - s.sum).toNat + 1)).flatMap fun k => (rowsL ps.length ((cnt - s.sum).toNat - k)).map fun r => (k : Int) :: r from rfl]
    rw [List.filter_flatMap, List.map_flatMap]
    rw [flat_range (a := (cnt - s.sum).toNat + 1) (m := (min (cnt - s.sum) (rm.getD p.toNat 0) + 1).toNat) (by omega) (fun k hk hka => ?_)]
    · refine flat_congr fun k hk => ?_
      have hk := List.mem_range.mp hk
      have hk1 : (k : Int) ≤ rm.getD p.toNat 0 := by omega
      show contAll cnt [(d, s ++ [(k : Int)], takeOff rm p.toNat k)] _ = _
      have es : (s ++ [(k : Int)]).sum = s.sum + k := by rw [List.sum_append]; simp
      rw [contAll_rows cnt d ps (s ++ [(k : Int)]) (takeOff rm p.toNat k) (fun q hq => hp q (List.mem_cons_of_mem _ hq)) ?_ (by rw [es]; omega)]
      · rw [es, show (cnt - (s.sum + (k : Int))).toNat = (cnt - s.sum).toNat - k by omega]
        rw [List.filter_map, List.map_map]
        have ef : ((fitRow rm (p :: ps)) ∘ fun r => (k : Int) :: r) = fitRow (takeOff rm p.toNat k) ps := by
          funext r
          show (decide ((k : Int) ≤ rm.getD p.toNat 0) && _) = _
          rw [decide_eq_true hk1, Bool.true_and]
        rw [ef]
        refine List.map_congr_left fun r _ => ?_
        show (d, s ++ [(k : Int)] ++ r, _) = (d, s ++ ((k : Int) :: r), _)
        rw [List.append_assoc]; rfl
      · intro c hc
        rcases List.mem_or_eq_of_mem_set hc with h | h
        · exact hr c h
        · omega
    · rw [List.map_eq_nil_iff, List.filter_map, List.map_eq_nil_iff, List.filter_eq_nil_iff]
      intro r hr2
      show ¬ ((decide ((k : Int) ≤ rm.getD p.toNat 0) && _) = true)
      rw [decide_eq_false (by omega)]; simp
theorem rowsL_pos : ∀ {s c : Nat} {r : List Int}, r ∈ rowsL s c → ∀ x ∈ r, 0 ≤ x
  | 0, c, r, h => by
    have e : r = [(c : Int)] := by simpa [rowsL] using h
    subst e
    intro x hx
    have e : x = (c : Int) := by simpa using hx
    omega
  | s + 1, c, r, h => by
    unfold rowsL at h
    obtain ⟨k, _, h⟩ := List.mem_flatMap.mp h
    obtain ⟨r', h', rfl⟩ := List.mem_map.mp h
    intro x hx
    rcases List.mem_cons.mp hx with rfl | hx
    · omega
    · exact rowsL_pos h' x hx
theorem rl_cons (p : Nat) (q : Int) (ps : List Int) (k : Int) (r : List Int) : rl p (q :: ps) (k :: r) = (if q.toNat = p then k else 0) + rl p ps r := by
  unfold rl; rw [List.zip_cons_cons, List.map_cons, List.sum_cons]
theorem rl_pos (p : Nat) : ∀ {ps r : List Int}, (∀ x ∈ r, 0 ≤ x) → 0 ≤ rl p ps r
  | [], r, _ => by simp [rl]
  | _ :: _, [], _ => by simp [rl]
  | q :: ps, k :: r, h => by
    rw [rl_cons]
    have ih := rl_pos p (ps := ps) (r := r) fun x hx => h x (List.mem_cons_of_mem _ hx)
    have := h k List.mem_cons_self
    split <;> omega
theorem takeOff_len (rm : List Int) (p : Nat) (k : Int) : (takeOff rm p k).length = rm.length := List.length_set
theorem takeOff_getD {rm : List Int} {q : Nat} (p : Nat) (k : Int) (hq : q < rm.length) : (takeOff rm p k).getD q 0 = rm.getD q 0 - if p = q then k else 0 := by
  unfold takeOff
  rw [List.getD_eq_getElem?_getD, List.getElem?_set, List.getD_eq_getElem?_getD]
  by_cases e : p = q
  · subst e
    rw [if_pos rfl, if_pos hq, if_pos rfl]; rfl
  · rw [if_neg e, if_neg e]; simp [List.getD_eq_getElem?_getD]
theorem leaveRow_len : ∀ (ps r : List Int) (rm : List Int), (leaveRow rm ps r).length = rm.length
  | [], _, _ => by simp [leaveRow]
  | _ :: _, [], _ => by simp [leaveRow]
  | p :: ps, k :: r, rm => by rw [leaveRow, leaveRow_len ps r, takeOff_len]
theorem leaveRow_getD {q : Nat} : ∀ (ps r : List Int) (rm : List Int), q < rm.length → (leaveRow rm ps r).getD q 0 = rm.getD q 0 - rl q ps r
  | [], _, _, _ => by simp [leaveRow, rl]
  | _ :: _, [], _, _ => by simp [leaveRow, rl]
  | p :: ps, k :: r, rm, h => by
    rw [leaveRow, leaveRow_getD ps r _ (by rw [takeOff_len]; exact h), takeOff_getD _ _ h, rl_cons]
    omega
theorem fitRow_iff : ∀ (ps r rm : List Int), (∀ p ∈ ps, 0 ≤ p ∧ p < (rm.length : Int)) → (∀ x ∈ r, 0 ≤ x) → (∀ q, q < rm.length → 0 ≤ rm.getD q 0) →
    (fitRow rm ps r = true ↔ ∀ q, q < rm.length → rl q ps r ≤ rm.getD q 0)
  | [], r, rm, _, _, h => by
    simp only [fitRow, true_iff]
    intro q hq
    have := h q hq
    simpa [rl] using this
  | _ :: _, [], rm, _, _, h => by
    simp only [fitRow, true_iff]
    intro q hq
    have := h q hq
    simpa [rl] using this
  | p :: ps, k :: r, rm, hp, hr, h => by
    have hp0 := hp p List.mem_cons_self
    have hk := hr k List.mem_cons_self
    have hr' : ∀ x ∈ r, 0 ≤ x := fun x hx => hr x (List.mem_cons_of_mem _ hx)
    rw [fitRow, Bool.and_eq_true, decide_eq_true_eq]
    constructor
    · rintro ⟨h1, h2⟩ q hq
      have nn : ∀ q, q < (takeOff rm p.toNat k).length → 0 ≤ (takeOff rm p.toNat k).getD q 0 := fun q hq => by
        rw [takeOff_len] at hq
        rw [takeOff_getD _ _ hq]
        have := h q hq
        split
        · rename_i e; subst e; omega
        · omega
      have := (fitRow_iff ps r _ (fun q hq => by rw [takeOff_len]; exact hp q (List.mem_cons_of_mem _ hq)) hr' nn).mp h2 q (by rw [takeOff_len]; exact hq)
      rw [takeOff_getD _ _ hq] at this
      rw [rl_cons]
      omega
    · intro ha
      have h1 : k ≤ rm.getD p.toNat 0 := by
        have := ha p.toNat (by omega)
        rw [rl_cons, if_pos rfl] at this
        have := rl_pos p.toNat (ps := ps) hr'
        omega
      have nn : ∀ q, q < (takeOff rm p.toNat k).length → 0 ≤ (takeOff rm p.toNat k).getD q 0 := fun q hq => by
        rw [takeOff_len] at hq
        rw [takeOff_getD _ _ hq]
        have := h q hq
        split
        · rename_i e; subst e; omega
        · omega
      refine ⟨h1, (fitRow_iff ps r _ (fun q hq => by rw [takeOff_len]; exact hp q (List.mem_cons_of_mem _ hq)) hr' nn).mpr fun q hq => ?_⟩
      rw [takeOff_len] at hq
      rw [takeOff_getD _ _ hq]
      have := ha q hq
      rw [rl_cons] at this
      omega
def roomL (cs : List Int) (gs : List Gp) (rs : List (List Int)) : List Int := (List.range cs.length).map fun p => cs.getD p 0 - gl p gs rs
theorem roomL_len (cs : List Int) (gs : List Gp) (rs : List (List Int)) : (roomL cs gs rs).length = cs.length := by simp [roomL]
theorem roomL_getD {cs : List Int} {gs : List Gp} {rs : List (List Int)} {q : Nat} (h : q < cs.length) : (roomL cs gs rs).getD q 0 = cs.getD q 0 - gl q gs rs := by
  unfold roomL
  rw [List.getD_eq_getElem?_getD, List.getElem?_map, List.getElem?_range h]; rfl
theorem ext_getD {a b : List Int} (hl : a.length = b.length) (h : ∀ q, q < a.length → a.getD q 0 = b.getD q 0) : a = b := by
  refine List.ext_getElem hl fun q h1 h2 => ?_
  have := h q h1
  rw [List.getD_eq_getElem?_getD, List.getD_eq_getElem?_getD, List.getElem?_eq_getElem h1, List.getElem?_eq_getElem h2] at this
  exact this
theorem gl_snoc (p : Nat) {gs : List Gp} {rs : List (List Int)} {g : Gp} (r : List Int) (h : gs[rs.length]? = some g) : gl p gs (rs ++ [r]) = gl p gs rs + rl p g.1 r := by
  have e : gs.zip (rs ++ [r]) = gs.zip rs ++ [(g, r)] := by
    have hl := (List.getElem?_eq_some_iff.mp h).1
    have e1 : gs = gs.take rs.length ++ [g] ++ gs.drop (rs.length + 1) := by
      rw [← take_snoc h, List.take_append_drop]
    have lt : (gs.take rs.length).length = rs.length := by rw [List.length_take]; omega
    have e2 : gs.zip rs = (gs.take rs.length).zip rs := by
      conv => lhs; rw [e1, List.append_assoc]
      rw [show rs = rs ++ [] from (List.append_nil _).symm]
      rw [List.zip_append (by rw [List.append_nil]; exact lt)]
      simp
    rw [e2]
    conv => lhs; rw [e1, List.append_assoc]
    rw [List.zip_append lt]
    simp
  unfold gl
  rw [e, List.map_append, List.sum_append]
  simp
theorem fitL_iff {cs : List Int} {gs : List Gp} {rs : List (List Int)} : fitL cs gs rs = true ↔ ∀ q, q < cs.length → gl q gs rs ≤ cs.getD q 0 := by
  have ll : (loadsOf cs.length gs rs).length = cs.length := by unfold loadsOf; rw [loadsFrom_len]; simp [zeros]
  unfold fitL
  rw [List.all_eq_true]
  constructor
  · intro h q hq
    have hz : ((loadsOf cs.length gs rs).zip cs)[q]? = some ((loadsOf cs.length gs rs)[q], cs[q]) := by
      rw [List.getElem?_zip_eq_some]; exact ⟨List.getElem?_eq_getElem _, List.getElem?_eq_getElem _⟩
    have := of_decide_eq_true (h _ (List.mem_of_getElem? hz))
    rw [← loadsOf_getD gs rs hq, List.getD_eq_getElem?_getD, List.getD_eq_getElem?_getD, List.getElem?_eq_getElem hq, List.getElem?_eq_getElem (by omega)]
    exact this
  · intro h x hx
    obtain ⟨q, hq⟩ := List.mem_iff_getElem?.mp hx
    rw [List.getElem?_zip_eq_some] at hq
    obtain ⟨h1, h2⟩ := hq
    have hl := (List.getElem?_eq_some_iff.mp h2).1
    have := h q hl
    rw [← loadsOf_getD gs rs hl, List.getD_eq_getElem?_getD, List.getD_eq_getElem?_getD, h1, h2] at this
    exact decide_eq_true this
theorem allN_rows2 (cs : List Int) (gs : List Gp) : ∀ i, i ≤ gs.length → ∀ rs ∈ allN cs gs i, rs.length = i
  | 0, _, rs, h => by
    have e : rs = [] := by simpa [allN] using h
    subst e; rfl
  | i + 1, hi, rs, h => by
    rw [allN, List.getElem?_eq_getElem (by omega : i < gs.length)] at h
    obtain ⟨h, _⟩ := List.mem_filter.mp h
    obtain ⟨a, ha, h⟩ := List.mem_flatMap.mp h
    obtain ⟨r, _, rfl⟩ := List.mem_map.mp h
    rw [List.length_append, allN_rows2 cs gs i (by omega) a ha]; rfl
theorem allN_fit {cs : List Int} {gs : List Gp} (hc : ∀ c ∈ cs, 0 ≤ c) : ∀ i, i ≤ gs.length → ∀ rs ∈ allN cs gs i, fitL cs gs rs = true
  | 0, _, rs, h => by
    have e : rs = [] := by simpa [allN] using h
    subst e
    rw [fitL_iff]
    intro q hq
    rw [show gl q gs [] = 0 by simp [gl], List.getD_eq_getElem?_getD, List.getElem?_eq_getElem hq]
    exact hc _ (List.getElem_mem hq)
  | i + 1, hi, rs, h => by
    rw [allN, List.getElem?_eq_getElem (by omega : i < gs.length)] at h
    exact (List.mem_filter.mp h).2
theorem endB_all {cs : List Int} {gs : List Gp} (hc : ∀ c ∈ cs, 0 ≤ c) (hg : ∀ g ∈ gs, (∀ p ∈ g.1, 0 ≤ p ∧ p < (cs.length : Int)) ∧ 0 ≤ g.2) : ∀ i, i ≤ gs.length →
    endB cs gs i = (allN cs gs i).map fun rs => (rs, roomL cs gs rs)
  | 0, _ => by
    show [(([] : List (List Int)), cs)] = [([], roomL cs gs [])]
    rw [show roomL cs gs [] = cs from ext_getD (roomL_len _ _ _) fun q hq => by
      rw [roomL_len] at hq
      rw [roomL_getD hq, show gl q gs [] = 0 by simp [gl]]; omega]
  | i + 1, hi => by
    have ih := endB_all hc hg i (by omega)
    have e : gs[i]? = some gs[i] := List.getElem?_eq_getElem (by omega)
    obtain ⟨hg1, hg2⟩ := hg _ (List.getElem_mem (by omega : i < gs.length))
    rw [endB, allN, e]
    dsimp only
    generalize gs[i] = g at e hg1 hg2 ⊢
    rw [ih]
    unfold stepG longL
    rw [contAll_flat, List.map_map, List.flatMap_map, List.map_flatMap, List.filter_flatMap, List.map_flatMap]
    refine flat_congr fun rs hrs => ?_
    have lrs := allN_rows2 cs gs i (by omega) rs hrs
    have frs := fitL_iff.mp (allN_fit hc i (by omega) rs hrs)
    have rp : ∀ q, q < (roomL cs gs rs).length → 0 ≤ (roomL cs gs rs).getD q 0 := fun q hq => by
      rw [roomL_len] at hq
      rw [roomL_getD hq]
      have := frs q hq
      omega
    have rp2 : ∀ c ∈ roomL cs gs rs, 0 ≤ c := fun c h => by
      obtain ⟨q, hq⟩ := List.mem_iff_getElem?.mp h
      have hl := (List.getElem?_eq_some_iff.mp hq).1
      have := rp q hl
      rw [List.getD_eq_getElem?_getD, hq] at this
      exact this
    show (contAll g.2 [(rs, [], roomL cs gs rs)] (g.1.map (fun p => some p.toNat) ++ [none])).map closeP = _
    rw [contAll_rows g.2 rs g.1 [] (roomL cs gs rs) (fun p hp => (hg1 p hp).1) rp2 (by simpa using hg2)]
    rw [show g.2 - ([] : List Int).sum = g.2 by simp]
    rw [List.map_map, List.filter_map, List.map_map]
    have ef : (rowsL g.1.length g.2.toNat).filter (fitRow (roomL cs gs rs) g.1) = (rowsL g.1.length g.2.toNat).filter (fitL cs gs ∘ fun r => rs ++ [r]) := by
      refine List.filter_congr fun r hr => ?_
      have hr0 := rowsL_pos hr
      rw [Bool.eq_iff_iff, fitRow_iff g.1 r _ (fun p hp => by rw [roomL_len]; exact hg1 p hp) hr0 rp]
      show _ ↔ fitL cs gs (rs ++ [r]) = true
      rw [fitL_iff, roomL_len]
      refine forall_congr' fun q => forall_congr' fun hq => ?_
      rw [roomL_getD hq, gl_snoc q r (by rw [lrs]; exact e)]
      omega
    rw [ef]
    refine List.map_congr_left fun r hr => ?_
    show (rs ++ [[] ++ r], leaveRow (roomL cs gs rs) g.1 r) = (rs ++ [r], roomL cs gs (rs ++ [r]))
    rw [List.nil_append]
    congr 1
    refine ext_getD (by rw [leaveRow_len, roomL_len, roomL_len]) fun q hq => ?_
    rw [leaveRow_len] at hq
    rw [leaveRow_getD _ _ _ hq]
    rw [roomL_len] at hq
    rw [roomL_getD hq, roomL_getD hq, gl_snoc q r (by rw [lrs]; exact e)]
    omega
theorem endB_asgs {cs : List Int} {gs : List Gp} (hc : ∀ c ∈ cs, 0 ≤ c) (hg : ∀ g ∈ gs, (∀ p ∈ g.1, 0 ≤ p ∧ p < (cs.length : Int)) ∧ 0 ≤ g.2) : (endB cs gs gs.length).map (fun b => dAsg b.1) = (allN cs gs gs.length).map dAsg := by
  rw [endB_all hc hg _ (Nat.le_refl _), List.map_map]; rfl
end Pv

namespace Pv
open PySem PySem.Spec PyProof.Rows L2
abbrev sFa : Stmt := topS 22
theorem scFa : FnScope ["_law_instance", "_law_capacities", "_law_groups", "_law_demand", "_law_order", "_law_count", "_law_post", "_law_excess", "_law_free", "_law_crowded", "_law_rows_here", "_law_group", "_law_one", "_law_other"] ["_law_instance"] (defScope sFa) := ⟨rfl, rfl, rfl, by decide +kernel, rfl, by decide +kernel, by decide +kernel⟩
section
variable {P : Program} {w : World} {K : PySem.W.Frag} {mg : Str → Option Value} {base : Heap}
def RwL (K : PySem.W.Frag) (n ng : Nat) (H : Hp) (v : V) : Prop := ∃ (T : Addr) (g f : Nat) (o : Option Nat), v = .ref T ∧ SqT K H T [.int g, .int f, oP o] ∧ g < ng ∧ f < n ∧ ∀ q, o = some q → q < n
theorem RwL.tk {n ng : Nat} {H H' : Hp} {v : V} (h : RwL K n ng H v) (t : TupK H H') : RwL K n ng H' v := by
  obtain ⟨T, g, f, o, e, a, b⟩ := h
  exact ⟨T, g, f, o, e, t.sq a, b⟩
theorem flat_intv {n : List Int} {F : Int → Option V} (hF : ∀ x v, F x = some v → flatV v = true) : (n.filterMap F).all flatV = true := by
  rw [List.all_eq_true]
  intro v hv
  obtain ⟨x, _, e⟩ := List.mem_filterMap.mp hv
  exact hF x v e
theorem grp_at {H : Hp} {xs : List V} {gs : List Gp} {j : Nat} {g : Gp} (h : DpAll K H xs (gs.map dGrp)) (hg : gs[j]? = some g) : ∃ gA pA, xs[j]? = some (.ref gA) ∧ SqT K H gA [.ref pA, .int g.2] ∧ SqT K H pA (g.1.map V.int) := by
  have l := DpAll.len h
  rw [List.length_map] at l
  have hj := (List.getElem?_eq_some_iff.mp hg).1
  obtain ⟨d, hd, hx⟩ := DpAll.at h (List.getElem?_eq_getElem (show j < xs.length by omega))
  rw [List.getElem?_map, hg] at hd
  cases hd
  obtain ⟨gA, pA, e, a, b⟩ := grp_ref hx
  exact ⟨gA, pA, by rw [List.getElem?_eq_getElem (show j < xs.length by omega), e], a, b⟩
def InG (n : Nat) (gs : List Gp) : Prop := ∀ g ∈ gs, g.1.length ≤ 6 ∧ ∀ p ∈ g.1, 0 ≤ p ∧ p < (n : Int)
def spFa (K : PySem.W.Frag) : Sp := fun vs H Q _ => ∃ (i : Addr) (cs : List Int) (gs : List Gp), vs = [.ref i] ∧ Dp K H (.ref i) (dInst cs gs) ∧ cs.length ≤ 6 ∧ gs.length ≤ 10 ∧ InG cs.length gs ∧
  ∀ (H' : Hp) (p d e f c w ca : Addr) (D X : List Int) (rs : List V), Same H H' → H p = none → H d = none → H' p = some (.lst [.ref d, .ref e, .ref f, .ref c, .ref w, .ref ca]) → H' d = some (.lst (D.map V.int)) → D.length = cs.length → H' e = some (.lst (X.map V.int)) → X.length = cs.length → H' w = some (.lst rs) → (∀ v ∈ rs, RwL K cs.length gs.length H' v) → rs.length ≤ 10 → Q (.ref p) H'
set_option maxHeartbeats 8000000 in
theorem ok_Fa {f : Addr} {fd : FuncData} (F : Fun K "_law_facts" "_law_facts" sFa f fd)
    (m_len : mg "len" = none) (m_zip : mg "zip" = none) (m_max : mg "max" = none) (m_range : mg "range" = none) :
    FnOk P w K mg base CX0 1 f fd ["_law_instance"] (spFa K) := by
  refine F.ok scFa (fun vs H Q E h => ?_) (fun cdv A outer s H vs Q E hr h => ?_)
  · obtain ⟨i, cs, gs, rfl, _⟩ := h; rfl
  · obtain ⟨i, cs, gs, rfl, hI, hcs, hgs10, hin, q⟩ := h
    have hu64 : (A.deeper (envOfC "_law_facts" (defScope sFa) s.heap.objs.size f cdv)).units + 64 < cLine := by have := hr.un; omega
    have hu0 : (A.deeper (envOfC "_law_facts" (defScope sFa) s.heap.objs.size f cdv)).units < cLine := by omega
    refine ⟨_, pss_cons (ps_asg (pv 0) (pg_tup rfl (pgs_cons (pg_name (i := 1) scFa.nd rfl (.inl rfl)) (pgs_cons (pg_name (i := 2) scFa.nd rfl (.inl rfl)) pgs_nil))))
      (pss_cons (ps_set (i := 3) scFa.nd rfl (.inl rfl) (pe_op op_rep (pe_lst (pa_cons (pe_int) pa_nil)) (pe_callB call_lenQ (by rfl) m_len PySem.boot_len (pa_cons (pv 1) pa_nil))))
      (pss_cons (ps_for PassesOwn.never rfl (pi_tup (pv 2)) (pg_tup rfl (pgs_cons (pg_name (i := 4) scFa.nd rfl (.inl rfl)) (pgs_cons (pg_name (i := 5) scFa.nd rfl (.inl rfl)) pgs_nil)))
        (pss_one (ps_for PassesOwn.never rfl (pi_tup (pe_slice sl_tupA (pv 4) po_none (po_some (pe_int)))) (pg_name (i := 6) scFa.nd rfl (.inl rfl))
          (pss_one (ps_asg (pe_op op_add (pe_ix ix_list (pv 3) (pv 6) (fun _ _ => rfl)) (pv 5)) (pg_sub (pv 3) (pv 6) set_list))))))
      (pss_cons (ps_set (i := 7) scFa.nd rfl (.inr rfl) (pe_lc (own := [("_law_one", 12), ("_law_other", 13)]) (g := gTup K 2 (gCons (gName 12) (gCons (gName 13) gNil))) (tt := tYes) (te := tCB (fun xs H Q => ∃ i j, xs = [.int i, .int j] ∧ Q (.int (if j > i then j else i)) H) (tCons (tC (.int 0)) (tCons (tOp (rI0 fun i j => .int (i - j)) (tVar 12) (tVar 13)) tNil))) rfl scFa.nd (pi_zipM (by rfl) m_zip (pa_cons (pv 3) (pa_cons (pv 1) pa_nil))) (blkOk_by (N := ["_law_instance", "_law_capacities", "_law_groups", "_law_demand", "_law_order", "_law_count", "_law_post", "_law_excess", "_law_free", "_law_crowded", "_law_rows_here", "_law_group", "_law_one", "_law_other"]) (sc := defScope sFa) (by decide +kernel)) (fun _ _ _ _ _ => pg_tup rfl (pgs_cons (pg_name (i := 12) scFa.nd rfl (.inl rfl)) (pgs_cons (pg_name (i := 13) scFa.nd rfl (.inl rfl)) pgs_nil))) (fun _ _ _ _ _ => pts_nil) (fun _ _ _ _ _ => pe_callB (call_max2 rfl) (by rfl) m_max (by decide +kernel) (pa_cons (pe_int) (pa_cons (pe_op op_sub (pv 12) (pv 13)) pa_nil)))))
      (pss_cons (ps_set (i := 8) scFa.nd rfl (.inr rfl) (pe_lc (own := [("_law_one", 12), ("_law_other", 13)]) (g := gTup K 2 (gCons (gName 12) (gCons (gName 13) gNil))) (tt := tYes) (te := tCB (fun xs H Q => ∃ i j, xs = [.int i, .int j] ∧ Q (.int (if j > i then j else i)) H) (tCons (tC (.int 0)) (tCons (tOp (rI0 fun i j => .int (i - j)) (tVar 13) (tVar 12)) tNil))) rfl scFa.nd (pi_zipM (by rfl) m_zip (pa_cons (pv 3) (pa_cons (pv 1) pa_nil))) (blkOk_by (N := ["_law_instance", "_law_capacities", "_law_groups", "_law_demand", "_law_order", "_law_count", "_law_post", "_law_excess", "_law_free", "_law_crowded", "_law_rows_here", "_law_group", "_law_one", "_law_other"]) (sc := defScope sFa) (by decide +kernel)) (fun _ _ _ _ _ => pg_tup rfl (pgs_cons (pg_name (i := 12) scFa.nd rfl (.inl rfl)) (pgs_cons (pg_name (i := 13) scFa.nd rfl (.inl rfl)) pgs_nil))) (fun _ _ _ _ _ => pts_nil) (fun _ _ _ _ _ => pe_callB (call_max2 rfl) (by rfl) m_max (by decide +kernel) (pa_cons (pe_int) (pa_cons (pe_op op_sub (pv 13) (pv 12)) pa_nil)))))
      (pss_cons (ps_setLc (i := 9) (own := [("_law_post", 6)]) (g := gName 6) (tt := tTest (tOp (rI0 fun i j => .bl (decide (j < i))) (tOp (rIxL K) (tVar 7) (tVar 6)) (tC (.int 0)))) (te := tVar 6) rfl scFa.nd rfl rfl (sw_true rfl rfl rfl (by decide +kernel)) (pi_range1 (by rfl) m_range (pa_cons (pe_callB call_lenQ (by rfl) m_len PySem.boot_len (pa_cons (pv 1) pa_nil)) pa_nil)) (blkOk_by (N := ["_law_instance", "_law_capacities", "_law_groups", "_law_demand", "_law_order", "_law_count", "_law_post", "_law_excess", "_law_free", "_law_crowded", "_law_rows_here", "_law_group", "_law_one", "_law_other"]) (sc := defScope sFa) (by decide +kernel)) (fun _ _ _ _ _ => pg_name (i := 6) scFa.nd rfl (.inl rfl)) (fun _ _ _ _ _ => pts_one (pt_cmpR op_gt (pe_ix ix_list (pv 7) (pv 6) (fun _ _ => rfl)) (pe_int) (nomark _))) (fun _ _ _ _ _ => pv 6))
      (pss_cons (ps_set (i := 10) scFa.nd rfl (.inl rfl) (pe_lst (pa_nil)))
      (pss_cons (ps_for PassesOwn.never rfl (pi_range1 (by rfl) m_range (pa_cons (pe_callB call_lenQ (by rfl) m_len PySem.boot_len (pa_cons (pv 2) pa_nil)) pa_nil)) (pg_name (i := 11) scFa.nd rfl (.inl rfl))
        (pss_cons (ps_set (i := 4) scFa.nd rfl (.inl rfl) (pe_ix ix_tup (pe_ix ix_tup (pv 2) (pv 11) (fun _ _ => rfl)) (pe_int) (fun _ _ => rfl)))
        (pss_one (ps_if (PW.pt (pw_and (pt_cmpR (op_neNilT hu0) (pv 4) (pe_tup (pa_nil)) (nomark _)) (pw_and1 (pt_cmpR op_in_seq (pe_ix ix_tup (pv 4) (pe_int) (fun _ _ => rfl)) (pv 9) (by rfl)))))
          (pss_one (ps_expr (pe_bm PySem.F.plainAttrs_list PySem.F.slot_list_append PySem.F.type_list_append mt_append (pv 10) (pa_cons (pe_tup (pa_cons (pv 11) (pa_cons (pe_ix ix_tup (pv 4) (pe_int) (fun _ _ => rfl)) (pa_cons (pe_ix ix_list (pe_op op_cat (pe_lc (own := [("_law_post", 6)]) (g := gName 6) (tt := tTest (tOp (rI0 fun i j => .bl (decide (j < i))) (tOp (rIxL K) (tVar 8) (tVar 6)) (tC (.int 0)))) (te := tVar 6) rfl scFa.nd (pi_tup (pe_slice sl_tupA (pv 4) (po_some (pe_int)) po_none)) (blkOk_by (N := ["_law_instance", "_law_capacities", "_law_groups", "_law_demand", "_law_order", "_law_count", "_law_post", "_law_excess", "_law_free", "_law_crowded", "_law_rows_here", "_law_group", "_law_one", "_law_other"]) (sc := defScope sFa) (by decide +kernel)) (fun _ _ _ _ _ => pg_name (i := 6) scFa.nd rfl (.inl rfl)) (fun _ _ _ _ _ => pts_one (pt_cmpR op_gt (pe_ix ix_list (pv 8) (pv 6) (fun _ _ => rfl)) (pe_int) (nomark _))) (fun _ _ _ _ _ => pv 6)) (pe_lst (pa_cons (pe_non) pa_nil))) (pe_int) (fun _ _ => rfl)) pa_nil)))) pa_nil)))) pss_nil))))
      (pss_one (ps_ret (pe_lst (pa_cons (pv 3) (pa_cons (pv 7) (pa_cons (pv 8) (pa_cons (pv 9) (pa_cons (pv 10) (pa_cons (pv 1) pa_nil)))))))))))))))), ?_⟩
    obtain ⟨_, ca, ga, xs, e, hi, hc, hg, hgs⟩ := inst_open hI
    cases e
    have lxs : xs.length = gs.length := by have := DpAll.len hgs; rwa [List.length_map] at this
    have sz := small (n := 100) (by decide)
    refine ⟨.ref i, rfl, i, _, rfl, hi, rfl, _, _, rfl, _, _, rfl, rfl, ?_⟩
    refine ⟨by decide, fun p0 n0 => ⟨.ref ca, rfl, ca, _, rfl, .inr ((TupK.new n0).sq hc), p0, _, _, rfl, rfl, upd_same, by omega, ?_, ?_, fun L nL => ?_⟩⟩
    · rw [List.length_map]; omega
    · rw [List.length_map]; show 1 * _ ≤ sizeLine; have := small (n := cs.length) (by omega); simp; omega
    have fL : H L = none := freeOf nL
    have s1 : Same H (upd (upd H p0 (.lst [.int 0])) L (.lst (List.replicate ((List.map V.int cs).length : Int).toNat [V.int 0]).flatten)) := samePut (sameNew n0) fL
    have eL : (upd (upd H p0 (.lst [.int 0])) L (.lst (List.replicate ((List.map V.int cs).length : Int).toNat [V.int 0]).flatten)) L = some (.lst ((zeros cs.length).map V.int)) := by
      rw [upd_same, zeros_V, List.length_map]; rfl
    generalize upd (upd H p0 (.lst [.int 0])) L (.lst (List.replicate ((List.map V.int cs).length : Int).toNat [V.int 0]).flatten) = H1 at s1 eL ⊢
    -- demand
    refine ⟨.ref ga, rfl, ga, rfl, ⟨_, sqS s1 hg⟩, for_it (walk_tup (K := K) (a := ga) (xs := xs))
      (fun j σ Hj => ∃ (y4 y5 y6 : Option V) (ds : List Int), σ = [some (.ref i), some (.ref ca), some (.ref ga), some (.ref L), y4, y5, y6, none, none, none, none, none, none, none] ∧ Same H Hj ∧ Hj L = some (.lst (ds.map V.int)) ∧ ds.length = cs.length)
      ⟨none, none, none, zeros cs.length, rfl, s1, eL, by simp [zeros]⟩ (fun j σ Hj _ h => by obtain ⟨_, _, _, _, _, s, _⟩ := h; exact sqS s hg) ?_ ?_⟩
    · rintro j v σ Hk Hj hlt ⟨y4, y5, y6, ds, rfl, sj, eD, lds⟩ ⟨rfl, hx⟩
      have hx : xs[j]? = some v := hx
      obtain ⟨d, hd, hxd⟩ := DpAll.at hgs hx
      rw [List.getElem?_map] at hd
      obtain ⟨g, hgj, rfl⟩ := Option.map_eq_some_iff.mp hd
      obtain ⟨gA, pA, rfl, hG, hP⟩ := grp_ref hxd
      have gp := hin g (List.mem_of_getElem? hgj)
      refine ⟨gA, _, rfl, sqS sj hG, rfl, _, _, rfl, _, _, rfl, rfl, ?_⟩
      refine ⟨.ref pA, rfl, 1, rfl, take_eq (sqS sj hP) 1 (fun H2 b s2 hb => ⟨b, rfl, ⟨_, hb⟩, for_it (walk_tup (K := K) (a := b) (xs := (g.1.map V.int).take 1))
        (fun k σ Hk => ∃ (y6 : Option V) (ds : List Int), σ = [some (.ref i), some (.ref ca), some (.ref ga), some (.ref L), some (.ref pA), some (.int g.2), y6, none, none, none, none, none, none, none] ∧ Same H Hk ∧ TupK H2 Hk ∧ Hk L = some (.lst (ds.map V.int)) ∧ ds.length = cs.length)
        ⟨_, ds, rfl, sj.trans s2, TupK.refl _, s2 _ _ eD, lds⟩ (fun k σ Hk _ h => by obtain ⟨_, _, _, _, t, _⟩ := h; exact t.sq hb) ?_ ?_⟩)⟩
      · rintro k v σ Hy Hx hltk ⟨y6, ds, rfl, sx, tx, eD, lds⟩ ⟨rfl, hxk⟩
        have hxk : ((g.1.map V.int).take 1)[k]? = some v := hxk
        have hm := List.mem_of_mem_take (List.mem_of_getElem? hxk)
        obtain ⟨pp, hpp, rfl⟩ := List.mem_map.mp hm
        have hpr := gp.2 pp hpp
        obtain ⟨pn, rfl⟩ : ∃ pn : Nat, pp = pn := ⟨pp.toNat, by omega⟩
        have hpl : pn < ds.length := by omega
        have hcv : (ds.map V.int)[pn]? = some (.int ds[pn]) := by rw [List.getElem?_map, List.getElem?_eq_getElem hpl]; rfl
        refine ⟨.ref L, rfl, .int pn, rfl, L, _, pn, .int ds[pn], rfl, rfl, SqL.of eD, atI_nat hcv, .int g.2, rfl, _, _, rfl, rfl, .ref L, rfl, .int pn, rfl, L, _, _, pn, rfl, rfl, eD, ixN_nat (by rw [List.length_map]; exact hpl), ?_⟩
        exact ⟨_, ds.set pn (ds[pn] + g.2), rfl, samePut sx fL, tx.trans (TupK.put eD), by rw [upd_same, List.map_set], by rw [List.length_set]; exact lds⟩
      · rintro σ Hx ⟨y6, ds, rfl, sx, tx, eD, lds⟩
        exact ⟨_, _, _, ds, rfl, sx, eD, lds⟩
    rintro σ H2 ⟨y4, y5, y6, D, rfl, s2, eD, lD⟩
    have lz : (D.zip cs).length = cs.length := by rw [List.length_zip]; omega
    -- excess
    have zat : ∀ {m : Nat} {x1 y1 : V}, (D.map V.int)[m]? = some x1 → (cs.map V.int)[m]? = some y1 → ∃ a b : Int, x1 = .int a ∧ y1 = .int b ∧ (D.zip cs)[m]? = some (a, b) ∧ m < cs.length := by
      intro m x1 y1 h1 h2
      rw [List.getElem?_map] at h1 h2
      obtain ⟨a, ha, rfl⟩ := Option.map_eq_some_iff.mp h1
      obtain ⟨b, hb, rfl⟩ := Option.map_eq_some_iff.mp h2
      exact ⟨a, b, rfl, rfl, by rw [List.getElem?_zip_eq_some]; exact ⟨ha, hb⟩, (List.getElem?_eq_some_iff.mp hb).1⟩
    refine ⟨.ref L, rfl, .ref ca, rfl, L, ca, _, _, rfl, SqL.of eD, sqS s2 hc, fun Ex nEx => lc_it (walk_zipM (K := K) (a := L) (b := ca) (xs := D.map V.int) (ys := cs.map V.int) rfl) (LcP H2 Ex (D.zip cs) (fun q => some (.int (if q.1 - q.2 > 0 then q.1 - q.2 else 0)))) (.start nEx) (fun m Hm _ h => ⟨SqL.of (h.1 _ _ eD), sqS (s2.trans h.1) hc⟩) ?_ ?_⟩
    · rintro m x Hm Hn hm hL ⟨T, x1, y1, rfl, nT, rfl, hx, hy⟩
      obtain ⟨a, b, rfl, rfl, hz, hml⟩ := zat hx hy
      refine ⟨T, _, rfl, SqT.of upd_same, rfl, _, _, rfl, _, _, rfl, rfl, rfl, ?_⟩
      refine ⟨.int a, rfl, .int b, rfl, _, _, rfl, rfl, _, _, rfl, ?_⟩
      exact hL.yes nEx (sameNew nT) hz rfl (by omega)
    rintro H3 hL
    have eE := hL.done (by rw [List.length_map, List.length_map, lz]; omega)
    rw [show (D.zip cs).filterMap (fun q => some (V.int (if q.1 - q.2 > 0 then q.1 - q.2 else 0))) = ((D.zip cs).map (fun q => if q.1 - q.2 > 0 then q.1 - q.2 else 0)).map V.int by rw [fm_map, List.map_map]; rfl] at eE
    have lX : ((D.zip cs).map (fun q => if q.1 - q.2 > 0 then q.1 - q.2 else 0)).length = cs.length := by rw [List.length_map, lz]
    generalize (D.zip cs).map (fun q => if q.1 - q.2 > 0 then q.1 - q.2 else 0) = X at eE lX
    have s3 := s2.trans hL.1
    have eD3 := hL.1 _ _ eD
    clear hL
    -- free
    refine ⟨.ref L, rfl, .ref ca, rfl, L, ca, _, _, rfl, SqL.of eD3, sqS s3 hc, fun Fr nFr => lc_it (walk_zipM (K := K) (a := L) (b := ca) (xs := D.map V.int) (ys := cs.map V.int) rfl) (LcP H3 Fr (D.zip cs) (fun q => some (.int (if q.2 - q.1 > 0 then q.2 - q.1 else 0)))) (.start nFr) (fun m Hm _ h => ⟨SqL.of (h.1 _ _ eD3), sqS (s3.trans h.1) hc⟩) ?_ ?_⟩
    · rintro m x Hm Hn hm hL ⟨T, x1, y1, rfl, nT, rfl, hx, hy⟩
      obtain ⟨a, b, rfl, rfl, hz, hml⟩ := zat hx hy
      refine ⟨T, _, rfl, SqT.of upd_same, rfl, _, _, rfl, _, _, rfl, rfl, rfl, ?_⟩
      refine ⟨.int b, rfl, .int a, rfl, _, _, rfl, rfl, _, _, rfl, ?_⟩
      exact hL.yes nFr (sameNew nT) hz rfl (by omega)
    rintro H4 hL
    have eF := hL.done (by rw [List.length_map, List.length_map, lz]; omega)
    rw [show (D.zip cs).filterMap (fun q => some (V.int (if q.2 - q.1 > 0 then q.2 - q.1 else 0))) = ((D.zip cs).map (fun q => if q.2 - q.1 > 0 then q.2 - q.1 else 0)).map V.int by rw [fm_map, List.map_map]; rfl] at eF
    have lF : ((D.zip cs).map (fun q => if q.2 - q.1 > 0 then q.2 - q.1 else 0)).length = cs.length := by rw [List.length_map, lz]
    generalize (D.zip cs).map (fun q => if q.2 - q.1 > 0 then q.2 - q.1 else 0) = F at eF lF
    have s4 := s3.trans hL.1
    have eD4 := hL.1 _ _ eD3
    have eE4 := hL.1 _ _ eE
    clear hL
    -- crowded
    have at' : ∀ {ds : List Int} {n : Nat}, n < ds.length → (ds.map V.int)[n]? = some (.int (ds.getD n 0)) := fun {ds n} h => by
      rw [List.getElem?_map, List.getD_eq_getElem?_getD, List.getElem?_eq_getElem h]; rfl
    refine ⟨.ref ca, rfl, ca, _, rfl, .inr (sqS s4 hc), _, rfl, by rw [List.length_map]; omega, by rw [List.length_map]; omega, fun Cr nCr => lc_it (walk_range (lo := 0) (n := (((cs.map V.int).length : Nat) : Int).toNat)) (LcP H4 Cr (upTo cs.length) (fun q => if X.getD q.toNat 0 > 0 then some (.int q) else none)) (.start nCr) (fun m Hm _ h => trivial) ?_ ?_⟩
    · rintro m x Hm Hn hm hL ⟨rfl, rfl⟩
      rw [List.length_map] at hm
      have hml : m < cs.length := by omega
      refine ⟨rfl, .ref Ex, rfl, .int (0 + (m : Nat)), rfl, Ex, _, m, .int (X.getD m 0), rfl, by rw [Int.zero_add], SqL.of (hL.1 _ _ eE4), atI_nat (at' (by omega)), _, _, rfl, rfl, _, rfl, ?_⟩
      have hz := upTo_at hml
      by_cases k1 : X.getD m 0 > 0
      · rw [decide_eq_true k1]
        exact iteT ⟨_, rfl, hL.yes (y := .int (0 + (m : Nat))) nCr (Same.refl _) hz (by rw [Int.toNat_natCast, if_pos k1, Int.zero_add]) (by omega)⟩
      · rw [decide_eq_false k1]
        exact iteF (hL.no (Same.refl _) hz (by rw [Int.toNat_natCast, if_neg k1]))
    rintro H5 hL
    have eC := hL.done (by rw [List.length_map, upTo_len]; omega)
    have fC := flat_intv (n := upTo cs.length) (F := fun q => if X.getD q.toNat 0 > 0 then some (.int q) else none) (fun x v e => by split at e; (cases e; rfl); cases e)
    generalize (upTo cs.length).filterMap (fun q => if X.getD q.toNat 0 > 0 then some (V.int q) else none) = C at eC fC
    have s5 := s4.trans hL.1
    have eD5 := hL.1 _ _ eD4
    have eE5 := hL.1 _ _ eE4
    have eF5 := hL.1 _ _ eF
    clear hL
    refine ⟨Nat.zero_le _, fun Rw nRw => ?_⟩
    have sR := sameNew (o := .lst []) nRw
    have s6 := s5.trans sR
    have eR : (upd H5 Rw (.lst [])) Rw = some (.lst []) := upd_same
    have fRw : H5 Rw = none := nRw
    generalize hH6 : upd H5 Rw (.lst []) = H6 at sR s6 eR ⊢
    refine ⟨.ref ga, rfl, ga, _, rfl, .inr (sqS s6 hg), _, rfl, by omega, by omega, for_it (walk_range (lo := 0) (n := ((xs.length : Nat) : Int).toNat))
      (fun j σ Hj => ∃ (y4 y5 y6 y11 : Option V) (rs : List V), σ = [some (.ref i), some (.ref ca), some (.ref ga), some (.ref L), y4, y5, y6, some (.ref Ex), some (.ref Fr), some (.ref Cr), some (.ref Rw), y11, none, none] ∧ Same H5 Hj ∧ Hj Rw = some (.lst rs) ∧ (∀ v ∈ rs, RwL K cs.length gs.length Hj v) ∧ rs.length ≤ j)
      ⟨y4, y5, y6, none, [], rfl, by rw [← hH6]; exact sameNew nRw, eR, by simp, Nat.zero_le _⟩ (fun _ _ _ _ _ => trivial) ?_ ?_⟩
    · rintro j v σ Hx Hj hlt ⟨y4, y5, y6, y11, rs, rfl, sj, eRj, hrs, lrs⟩ ⟨rfl, rfl⟩
      have hj : j < gs.length := by omega
      have hgj : gs[j]? = some gs[j] := List.getElem?_eq_getElem hj
      obtain ⟨gA, pA, hx, hG, hP⟩ := grp_at hgs hgj
      have gp := hin gs[j] (List.getElem_mem hj)
      have ss := s5.trans sj
      generalize gs[j] = g at hgj hx hG hP gp
      rw [show (fun i : Nat => V.int (0 + (i : Int))) = fun i : Nat => V.int (i : Int) from funext fun i => by rw [Int.zero_add]]
      refine ⟨.ref ga, rfl, .int (j : Nat), rfl, ga, _, j, .ref gA, rfl, rfl, sqS ss hg, atI_nat hx, gA, _, 0, .ref pA, rfl, rfl, sqS ss hG, atI_nat (j := 0) rfl, ?_⟩
      refine ⟨.ref pA, rfl, Nat.zero_le _, fun Em nEm => ?_⟩
      have sE := sameNew (o := .tup []) nEm
      have sEj := sj.trans sE
      refine ⟨pA, Em, _, rfl, rfl, sqS (ss.trans sE) hP, SqT.of upd_same, _, rfl, ?_⟩
      have eRj1 := sE _ _ eRj
      have hrs1 : ∀ v ∈ rs, RwL K cs.length gs.length (upd Hj Em (.tup [])) v := fun v hv => (hrs v hv).tk (TupK.of sE)
      have ss1 := ss.trans sE
      generalize upd Hj Em (.tup []) = H7 at sE sEj eRj1 hrs1 ss1 ⊢
      have hP7 := sqS ss1 hP
      cases hgg : g.1 with
      | nil => exact iteF (iteF ⟨_, _, _, _, rs, rfl, sEj, eRj1, hrs1, by omega⟩)
      | cons pp ps =>
        refine iteT ?_
        have hpr := gp.2 pp (by rw [hgg]; simp)
        obtain ⟨pn, rfl⟩ : ∃ pn : Nat, pp = pn := ⟨pp.toNat, by omega⟩
        have h0 : (g.1.map V.int)[0]? = some (.int (pn : Nat)) := by rw [hgg]; rfl
        refine ⟨.ref pA, rfl, pA, _, _, .int pn, rfl, rfl, hP7, atI_nat (j := 0) h0, .ref Cr, rfl, Cr, _, rfl, .inl (SqL.of (sEj _ _ eC)), rfl, fC, _, rfl, ?_⟩
        rw [if_neg (by decide)]
        refine ite2 (fun h1 => ?_) (fun h1 => ?_)
        · refine ⟨.ref Rw, rfl, .inl ⟨rfl, _, SqL.of eRj1⟩, .int (j : Nat), rfl, .ref pA, rfl, pA, _, _, .int pn, rfl, rfl, hP7, atI_nat (j := 0) h0, .ref pA, rfl, 1, rfl, ?_⟩
          dsimp only [tNoPart]
          refine drop_eq hP7 1 (fun H8 b s8 hb => ⟨b, rfl, ⟨_, hb⟩, fun Lc nLc => lc_it (walk_tup (K := K) (a := b) (xs := (g.1.map V.int).drop 1)) (LcP H8 Lc (g.1.drop 1) (fun q => if F.getD q.toNat 0 > 0 then some (.int q) else none)) (.start nLc) (fun m Hm _ h => sqS h.1 hb) ?_ ?_⟩)
          · rintro m x Hm Hn hm hL ⟨rfl, hx⟩
            have hx : ((g.1.map V.int).drop 1)[m]? = some x := hx
            rw [← List.map_drop, List.getElem?_map] at hx
            obtain ⟨q', hq', rfl⟩ := Option.map_eq_some_iff.mp hx
            have hqm := gp.2 q' (List.mem_of_mem_drop (List.mem_of_getElem? hq'))
            have hml := (List.getElem?_eq_some_iff.mp hq').1
            rw [List.length_drop] at hml
            obtain ⟨qn, rfl⟩ : ∃ qn : Nat, q' = qn := ⟨q'.toNat, by omega⟩
            refine ⟨rfl, .ref Fr, rfl, .int (qn : Nat), rfl, Fr, _, qn, .int (F.getD qn 0), rfl, rfl, SqL.of (((sEj.trans s8).trans hL.1) _ _ eF5), atI_nat (at' (by omega)), _, _, rfl, rfl, _, rfl, ?_⟩
            by_cases k1 : F.getD qn 0 > 0
            · rw [decide_eq_true k1]
              exact iteT ⟨_, rfl, hL.yes nLc (Same.refl _) hq' (by rw [Int.toNat_natCast, if_pos k1]) (by omega)⟩
            · rw [decide_eq_false k1]
              exact iteF (hL.no (Same.refl _) hq' (by rw [Int.toNat_natCast, if_neg k1]))
          rintro H9 hL
          have eLc := hL.done (by rw [List.length_drop, List.length_drop, List.length_map]; omega)
          have lfm := List.length_filterMap_le (fun q : Int => if F.getD q.toNat 0 > 0 then some (V.int q) else none) (g.1.drop 1)
          rw [List.length_drop] at lfm
          -- its first, or none
          have hd0 : ∃ o : Option Nat, ((g.1.drop 1).filterMap (fun q : Int => if F.getD q.toNat 0 > 0 then some (V.int q) else none) ++ [.non])[0]? = some (oP o) ∧ ∀ q, o = some q → q < cs.length := by
            cases hfm : (g.1.drop 1).filterMap (fun q : Int => if F.getD q.toNat 0 > 0 then some (V.int q) else none) with
            | nil => exact ⟨none, rfl, fun q e => by cases e⟩
            | cons v l =>
              obtain ⟨x, hx, e⟩ := List.mem_filterMap.mp (show v ∈ (g.1.drop 1).filterMap (fun q : Int => if F.getD q.toNat 0 > 0 then some (V.int q) else none) by rw [hfm]; exact List.mem_cons_self)
              have hxr := gp.2 x (List.mem_of_mem_drop hx)
              split at e
              · cases e
                exact ⟨some x.toNat, by show some (V.int x) = some (V.int ((x.toNat : Nat) : Int)); rw [show ((x.toNat : Nat) : Int) = x by omega], fun q e => by have e := Option.some.inj e; omega⟩
              · cases e
          obtain ⟨o, ho, hoq⟩ := hd0
          generalize (g.1.drop 1).filterMap (fun q : Int => if F.getD q.toNat 0 > 0 then some (V.int q) else none) = fl at eLc lfm ho
          refine ⟨(show (1 : Nat) ≤ sizeLine by decide), fun Nl nNl => ?_⟩
          have sN := sameNew (o := .lst [.non]) nNl
          refine ⟨Lc, Nl, _, _, rfl, rfl, sN _ _ eLc, upd_same, Nat.le_of_lt (small (by simp; omega)), fun Cl nCl => ?_⟩
          have sC := sN.trans (sameNew (o := .lst (fl ++ [.non])) nCl)
          refine ⟨Cl, _, 0, oP o, rfl, rfl, SqL.of upd_same, atI_nat (j := 0) ho, (show (3 : Nat) ≤ sizeLine by decide), fun T nT => ?_⟩
          have sT := ((s8.trans hL.1).trans sC).trans (sameNew (o := .tup [.int (j : Nat), .int (pn : Nat), oP o]) nT)
          have eR9 := sT _ _ eRj1
          refine ⟨Rw, rs, _, rfl, rfl, eR9, Nat.lt_of_le_of_lt (show rs.length ≤ 100 by omega) (small (by decide)), ?_⟩
          have tkp := TupK.put (o := .lst (rs ++ [.ref T])) eR9
          refine ⟨_, _, _, _, rs ++ [.ref T], rfl, samePut (sEj.trans sT) fRw, upd_same, fun v hv => ?_, by rw [List.length_append]; simp only [List.length_cons, List.length_nil]; omega⟩
          rcases List.mem_append.mp hv with h | h
          · exact (hrs1 v h).tk ((TupK.of sT).trans tkp)
          · have e : v = .ref T := by simpa using h
            subst e
            exact ⟨T, j, pn, o, rfl, tkp.sq (SqT.of upd_same), hj, by omega, hoq⟩
        · exact ⟨_, _, _, _, rs, rfl, sEj, eRj1, hrs1, by omega⟩
    · rintro σ Hx ⟨y4, y5, y6, y11, rs, rfl, sx, eRx, hrs, lrs⟩
      refine ⟨.ref L, rfl, .ref Ex, rfl, .ref Fr, rfl, .ref Cr, rfl, .ref Rw, rfl, .ref ca, rfl, (show (6 : Nat) ≤ sizeLine by decide), fun p np => ?_⟩
      have sp := sameNew (o := .lst [.ref L, .ref Ex, .ref Fr, .ref Cr, .ref Rw, .ref ca]) np
      have sx5 := sx.trans sp
      exact q _ p L Ex Fr Cr Rw ca D X rs (s5.trans sx5) (freeZ (s5.trans sx) np) fL upd_same (sx5 _ _ eD5) lD (sx5 _ _ eE5) lX (sp _ _ eRx) (fun v hv => (hrs v hv).tk (TupK.of sp)) (by omega)
end
end Pv

namespace Pv
open PySem PySem.Spec PyProof.Rows L2
abbrev sFi : Stmt := topS 21
theorem scFi : FnScope ["_law_deck_here", "_law_instance", "_law_numbers", "_law_facts_here", "_law_capacities", "_law_vector", "_law_left", "_law_group", "_law_first", "_law_reserve", "_law_more", "_law_used", "_law_post", "_law_other", "_law_one", "_law_spot"] ["_law_deck_here", "_law_instance", "_law_numbers"] (defScope sFi) := ⟨rfl, rfl, rfl, by decide +kernel, rfl, by decide +kernel, by decide +kernel⟩
section
variable {P : Program} {w : World} {K : PySem.W.Frag} {mg : Str → Option Value} {base : Heap}
theorem atD {ds : List Int} {n : Nat} (h : n < ds.length) : (ds.map V.int)[n]? = some (.int (ds.getD n 0)) := by
  rw [List.getElem?_map, List.getD_eq_getElem?_getD, List.getElem?_eq_getElem h]; rfl
structure F3 (H1 : Hp) (n ng : Nat) (Ca Ve Le : Addr) (H : Hp) : Prop where
  s : Same H1 H
  a : ∃ A : List Int, H Ca = some (.lst (A.map V.int)) ∧ A.length = n ∧ ∀ c ∈ A, 1 ≤ c ∧ c ≤ 10 ^ 12
  b : ∃ B : List Int, H Ve = some (.lst (B.map V.int)) ∧ B.length = ng
  c : ∃ C : List Int, H Le = some (.lst (C.map V.int)) ∧ C.length = n
structure Nu (H1 : Hp) (Ca Ve Le : Addr) : Prop where
  a : H1 Ca = none
  b : H1 Ve = none
  c : H1 Le = none
  ab : Ca ≠ Ve
  ac : Ca ≠ Le
  bc : Ve ≠ Le
section
variable {H1 H : Hp} {n ng : Nat} {Ca Ve Le : Addr}
theorem F3.new (h : F3 H1 n ng Ca Ve Le H) {p : Addr} {o : HO} (np : H p = none) : F3 H1 n ng Ca Ve Le (upd H p o) := by
  obtain ⟨s, ⟨A, a1, a2⟩, ⟨B, b1, b2⟩, ⟨C, c1, c2⟩⟩ := h
  exact ⟨s.trans (sameNew np), ⟨A, upNew np a1, a2⟩, ⟨B, upNew np b1, b2⟩, ⟨C, upNew np c1, c2⟩⟩
theorem F3.same (h : F3 H1 n ng Ca Ve Le H) {H' : Hp} (z : Same H H') : F3 H1 n ng Ca Ve Le H' := by
  obtain ⟨s, ⟨A, a1, a2⟩, ⟨B, b1, b2⟩, ⟨C, c1, c2⟩⟩ := h
  exact ⟨s.trans z, ⟨A, z _ _ a1, a2⟩, ⟨B, z _ _ b1, b2⟩, ⟨C, z _ _ c1, c2⟩⟩
theorem F3.setB (u : Nu H1 Ca Ve Le) (h : F3 H1 n ng Ca Ve Le H) {B : List Int} (lB : B.length = ng) : F3 H1 n ng Ca Ve Le (upd H Ve (.lst (B.map V.int))) := by
  obtain ⟨s, ⟨A, a1, a2⟩, _, ⟨C, c1, c2⟩⟩ := h
  exact ⟨samePut s u.b, ⟨A, by rw [upd_ne u.ab]; exact a1, a2⟩, ⟨B, upd_same, lB⟩, ⟨C, by rw [upd_ne u.bc.symm]; exact c1, c2⟩⟩
theorem F3.setC (u : Nu H1 Ca Ve Le) (h : F3 H1 n ng Ca Ve Le H) {C : List Int} (lC : C.length = n) : F3 H1 n ng Ca Ve Le (upd H Le (.lst (C.map V.int))) := by
  obtain ⟨s, ⟨A, a1, a2⟩, ⟨B, b1, b2⟩, _⟩ := h
  exact ⟨samePut s u.c, ⟨A, by rw [upd_ne u.ac]; exact a1, a2⟩, ⟨B, by rw [upd_ne u.bc]; exact b1, b2⟩, ⟨C, upd_same, lC⟩⟩
theorem F3.setA (u : Nu H1 Ca Ve Le) (h : F3 H1 n ng Ca Ve Le H) {A : List Int} (lA : A.length = n) (hA : ∀ c ∈ A, 1 ≤ c ∧ c ≤ 10 ^ 12) : F3 H1 n ng Ca Ve Le (upd H Ca (.lst (A.map V.int))) := by
  obtain ⟨s, _, ⟨B, b1, b2⟩, ⟨C, c1, c2⟩⟩ := h
  exact ⟨samePut s u.a, ⟨A, upd_same, lA, hA⟩, ⟨B, by rw [upd_ne u.ab.symm]; exact b1, b2⟩, ⟨C, by rw [upd_ne u.ac.symm]; exact c1, c2⟩⟩
end
theorem mem_set_or {A : List Int} {q : Nat} {x c : Int} (h : c ∈ A.set q x) : c ∈ A ∨ c = x := List.mem_or_eq_of_mem_set h
def spFi (K : PySem.W.Frag) : Sp := fun vs H Q _ => ∃ (st c r i nA : Addr) (t : Nat) (cs : List Int) (gs : List Gp) (ns : List Int), vs = [.ref st, .ref i, .ref nA] ∧ DU H st c r t ∧ t + 20 < 900000 ∧ Dp K H (.ref i) (dInst cs gs) ∧ InsOk cs gs ∧ H nA = some (.lst (ns.map V.int)) ∧ ns.length = gs.length ∧
  ∀ (H' : Hp) (p i' v : Addr) (t' : Nat) (cs' : List Int), DU H' st c r t' → t' ≤ t + 10 → Ext st r H H' → SqL K H' p [.ref i', .ref v] → Dp K H' (.ref i') (dInst cs' gs) → InsOk cs' gs → Q (.ref p) H'
set_option maxHeartbeats 16000000 in
theorem ok_Fi {f fFa fDr : Addr} {fd fdFa fdDr : FuncData} (F : Fun K "_law_fitted" "_law_fitted" sFi f fd)
    (FFa : Fun K "_law_facts" "_law_facts" sFa fFa fdFa) (bFa : Binds K fdFa ["_law_instance"] []) (gFa : mg "_law_facts" = some (.ref fFa)) (GFa : FnOk P w K mg base CX0 1 fFa fdFa ["_law_instance"] (spFa K))
    (FDr : Fun K "_law_draw" "_law_draw" sDr fDr fdDr) (bDr : Binds K fdDr ["_law_deck_here", "_law_many"] []) (gDr : mg "_law_draw" = some (.ref fDr)) (GDr : FnOk P w K mg base CX0 1 fDr fdDr ["_law_deck_here", "_law_many"] spDraw)
    (m_list : mg "list" = none) (m_len : mg "len" = none) (m_min : mg "min" = none) (m_sum : mg "sum" = none) (m_max : mg "max" = none) (m_range : mg "range" = none) (m_tuple : mg "tuple" = none) :
    FnOk P w K mg base CX0 2 f fd ["_law_deck_here", "_law_instance", "_law_numbers"] (spFi K) := by
  refine F.ok scFi (fun vs H Q E h => ?_) (fun cdv A outer s H vs Q E hr h => ?_)
  · obtain ⟨st, c, r, i, nA, t, cs, gs, ns, rfl, _⟩ := h; rfl
  · obtain ⟨st, c, r, i, nA, t, cs, gs, ns, rfl, D0, ht, hI, ok, eN, lN, q⟩ := h
    refine ⟨_, pss_cons (ps_set (i := 3) scFi.nd rfl (.inl rfl) (pe_call GFa (hr.mono (by omega)) (by rfl) gFa FFa.kp bFa .nil pass0 (pa_cons (pv 1) pa_nil)))
      (pss_cons (ps_set (i := 4) scFi.nd rfl (.inl rfl) (pe_callTy call_list_of (by rfl) m_list (by decide +kernel) (pa_cons (pe_ix ix_tup (pv 1) (pe_int) (fun _ _ => rfl)) pa_nil)))
      (pss_cons (ps_set (i := 5) scFi.nd rfl (.inr rfl) (pe_op op_rep (pe_lst (pa_cons (pe_int) pa_nil)) (pe_callB call_lenQ (by rfl) m_len PySem.boot_len (pa_cons (pv 2) pa_nil))))
      (pss_cons (ps_set (i := 6) scFi.nd rfl (.inl rfl) (pe_callTy call_list_of (by rfl) m_list (by decide +kernel) (pa_cons (pe_ix ix_list (pv 3) (pe_int) (fun _ _ => rfl)) pa_nil)))
      (pss_cons (ps_for PassesOwn.never rfl (pi_list (pe_ix ix_list (pv 3) (pe_int) (fun _ _ => rfl))) (pg_tup rfl (pgs_cons (pg_name (i := 7) scFi.nd rfl (.inl rfl)) (pgs_cons (pg_name (i := 8) scFi.nd rfl (.inl rfl)) (pgs_cons (pg_name (i := 9) scFi.nd rfl (.inr rfl)) pgs_nil))))
        (pss_cons (ps_asg (pe_callB (call_min2 rfl) (by rfl) m_min (by decide +kernel) (pa_cons (pe_ix ix_list (pv 2) (pv 7) (fun _ _ => rfl)) (pa_cons (pe_ix ix_list (pv 6) (pv 8) (fun _ _ => rfl)) pa_nil))) (pg_sub (pv 5) (pv 7) set_list))
        (pss_one (ps_asg (pe_op op_sub (pe_ix ix_list (pv 6) (pv 8) (fun _ _ => rfl)) (pe_ix ix_list (pv 5) (pv 7) (fun _ _ => rfl))) (pg_sub (pv 6) (pv 8) set_list)))))
      (pss_cons (ps_for PassesOwn.never rfl (pi_list (pe_ix ix_list (pv 3) (pe_int) (fun _ _ => rfl))) (pg_tup rfl (pgs_cons (pg_name (i := 7) scFi.nd rfl (.inl rfl)) (pgs_cons (pg_name (i := 8) scFi.nd rfl (.inl rfl)) (pgs_cons (pg_name (i := 9) scFi.nd rfl (.inr rfl)) pgs_nil))))
        (pss_cons (ps_set (i := 10) scFi.nd rfl (.inl rfl) (pe_callB (call_min2 rfl) (by rfl) m_min (by decide +kernel) (pa_cons (pe_op op_sub (pe_ix ix_tup (pe_ix ix_tup (pe_ix ix_tup (pv 1) (pe_int) (fun _ _ => rfl)) (pv 7) (fun _ _ => rfl)) (pe_int) (fun _ _ => rfl)) (pe_ix ix_list (pv 5) (pv 7) (fun _ _ => rfl))) (pa_cons (pe_ix ix_list (pv 6) (pv 8) (fun _ _ => rfl)) pa_nil))))
        (pss_cons (ps_asg (pe_op op_add (pe_ix ix_list (pv 5) (pv 7) (fun _ _ => rfl)) (pv 10)) (pg_sub (pv 5) (pv 7) set_list))
        (pss_one (ps_asg (pe_op op_sub (pe_ix ix_list (pv 6) (pv 8) (fun _ _ => rfl)) (pv 10)) (pg_sub (pv 6) (pv 8) set_list))))))
      (pss_cons (ps_for PassesOwn.never rfl (pi_list (pe_ix ix_list (pv 3) (pe_int) (fun _ _ => rfl))) (pg_tup rfl (pgs_cons (pg_name (i := 7) scFi.nd rfl (.inl rfl)) (pgs_cons (pg_name (i := 8) scFi.nd rfl (.inl rfl)) (pgs_cons (pg_name (i := 9) scFi.nd rfl (.inr rfl)) pgs_nil))))
        (pss_one (ps_if (pt_cmp (pc_notN (pv 9)))
          (pss_cons (ps_setLc (i := 11) (own := [("_law_other", 13), ("_law_one", 14), ("_law_spot", 15)]) (g := gTup K 3 (gCons (gName 13) (gCons (gName 14) (gCons (gName 15) gNil)))) (tt := tTest (tOp rEq (tVar 15) (tVar 9))) (te := tOp (rIxL K) (tVar 5) (tVar 13)) rfl scFi.nd rfl rfl (sw_true rfl rfl rfl (by decide +kernel)) (pi_list (pe_ix ix_list (pv 3) (pe_int) (fun _ _ => rfl))) (blkOk_by (N := ["_law_deck_here", "_law_instance", "_law_numbers", "_law_facts_here", "_law_capacities", "_law_vector", "_law_left", "_law_group", "_law_first", "_law_reserve", "_law_more", "_law_used", "_law_post", "_law_other", "_law_one", "_law_spot"]) (sc := defScope sFi) (by decide +kernel)) (fun _ _ _ _ _ => pg_tup rfl (pgs_cons (pg_name (i := 13) scFi.nd rfl (.inl rfl)) (pgs_cons (pg_name (i := 14) scFi.nd rfl (.inl rfl)) (pgs_cons (pg_name (i := 15) scFi.nd rfl (.inl rfl)) pgs_nil)))) (fun _ _ _ _ _ => pts_one (pt_cmpR op_eq (pv 15) (pv 9) (nomark _))) (fun _ _ _ _ _ => pe_ix ix_list (pv 5) (pv 13) (fun _ _ => rfl)))
          (pss_one (ps_asg (pe_callB (call_min2 rfl) (by rfl) m_min (by decide +kernel) (pa_cons (pe_op op_pow (pe_int) (pe_int)) (pa_cons (pe_callB (call_max2 rfl) (by rfl) m_max (by decide +kernel) (pa_cons (pe_ix ix_list (pv 4) (pv 9) (fun _ _ => rfl)) (pa_cons (pe_op op_add (pe_ix ix_list (pe_ix ix_list (pv 3) (pe_int) (fun _ _ => rfl)) (pv 9) (fun _ _ => rfl)) (pe_callB (cr_sum rfl) (by rfl) m_sum (by decide +kernel) (pa_cons (pv 11) pa_nil))) pa_nil))) pa_nil))) (pg_sub (pv 4) (pv 9) set_list)))) pss_nil)))
      (pss_cons (ps_for PassesOwn.never rfl (pi_range1 (by rfl) m_range (pa_cons (pe_callB call_lenQ (by rfl) m_len PySem.boot_len (pa_cons (pv 4) pa_nil)) pa_nil)) (pg_name (i := 12) scFi.nd rfl (.inl rfl))
        (pss_one (ps_if (pt_cmpR op_eq (pe_ix ix_list (pe_ix ix_list (pv 3) (pe_int) (fun _ _ => rfl)) (pv 12) (fun _ _ => rfl)) (pe_int) (nomark _))
          (pss_one (ps_asg (pe_callB (call_min2 rfl) (by rfl) m_min (by decide +kernel) (pa_cons (pe_op op_pow (pe_int) (pe_int)) (pa_cons (pe_op op_add (pe_ix ix_list (pv 4) (pv 12) (fun _ _ => rfl)) (pe_call GDr (hr.mono (by omega)) (by rfl) gDr FDr.kp bDr .nil pass0 (pa_cons (pv 0) (pa_cons (pe_int) pa_nil)))) pa_nil))) (pg_sub (pv 4) (pv 12) set_list))) pss_nil)))
      (pss_one (ps_ret (pe_lst (pa_cons (pe_tup (pa_cons (pe_callTy call_tupQ (by rfl) m_tuple (by decide +kernel) (pa_cons (pv 4) pa_nil)) (pa_cons (pe_ix ix_tup (pv 1) (pe_int) (fun _ _ => rfl)) pa_nil))) (pa_cons (pe_callTy call_tupQ (by rfl) m_tuple (by decide +kernel) (pa_cons (pv 5) pa_nil)) pa_nil)))))))))))), ?_⟩
    obtain ⟨_, ca, ga, xs, e, hi, hc, hg, hgs⟩ := inst_open hI
    cases e
    have h6 := ok.c6
    have h10 := ok.g10
    have lxs : xs.length = gs.length := by have := DpAll.len hgs; rwa [List.length_map] at this
    have sz := small (n := 100) (by decide)
    have hin : InG cs.length gs := fun g hg => ⟨(ok.gp g hg).1, (ok.gp g hg).2.1⟩
    refine ⟨.ref i, rfl, i, cs, gs, rfl, hI, h6, h10, hin, fun H1 p d e f cr w ca' D X rs s1 fp fd0 eP eD lD eE lX eW hrs lrs => ?_⟩
    -- the three lists
    refine ⟨.ref i, rfl, i, _, 0, .ref ca, rfl, rfl, sqS s1 hi, atI_nat (j := 0) rfl, ca, _, rfl, .inr (sqS s1 hc), fun Ca nCa => ?_⟩
    refine ⟨by decide, fun p0 n0 => ⟨.ref nA, rfl, nA, _, rfl, .inl (SqL.of (sameNew n0 _ _ (sameNew nCa _ _ (s1 _ _ eN)))), p0, _, _, rfl, rfl, upd_same, by omega, ?_, ?_, fun Ve nVe => ?_⟩⟩
    · rw [List.length_map]; omega
    · rw [List.length_map]; show 1 * _ ≤ sizeLine; have := small (n := ns.length) (by omega); simp; omega
    have nVe1 : H1 Ve = none := freeZ ((sameNew (o := .lst (cs.map V.int)) nCa).trans (sameNew (o := .lst [.int 0]) n0)) nVe
    have nAV : Ca ≠ Ve := ne_of_none (upNew n0 upd_same) nVe
    have f2 : Same H1 (upd (upd (upd H1 Ca (.lst (cs.map V.int))) p0 (.lst [.int 0])) Ve (.lst (List.replicate ((List.map V.int ns).length : Int).toNat [V.int 0]).flatten)) := ((sameNew (o := .lst (cs.map V.int)) nCa).trans (sameNew n0)).trans (sameNew nVe)
    have eCa : (upd (upd (upd H1 Ca (.lst (cs.map V.int))) p0 (.lst [.int 0])) Ve (.lst (List.replicate ((List.map V.int ns).length : Int).toNat [V.int 0]).flatten)) Ca = some (.lst (cs.map V.int)) := upNew nVe (upNew n0 upd_same)
    have eVe : (upd (upd (upd H1 Ca (.lst (cs.map V.int))) p0 (.lst [.int 0])) Ve (.lst (List.replicate ((List.map V.int ns).length : Int).toNat [V.int 0]).flatten)) Ve = some (.lst ((zeros ns.length).map V.int)) := by
      rw [upd_same, zeros_V, List.length_map]; rfl
    generalize upd (upd (upd H1 Ca (.lst (cs.map V.int))) p0 (.lst [.int 0])) Ve (.lst (List.replicate ((List.map V.int ns).length : Int).toNat [V.int 0]).flatten) = H2 at f2 eCa eVe ⊢
    have eP2 : ∀ {Hx : Hp}, Same H1 Hx → SqL K Hx p [.ref d, .ref e, .ref f, .ref cr, .ref w, .ref ca'] := fun s => SqL.of (s _ _ eP)
    refine ⟨.ref p, rfl, p, _, 1, .ref e, rfl, rfl, eP2 f2, atI_nat (j := 1) rfl, e, _, rfl, .inl (SqL.of (f2 _ _ eE)), fun Le nLe => ?_⟩
    have nu : Nu H1 Ca Ve Le := ⟨nCa, nVe1, freeZ f2 nLe, nAV, ne_of_none eCa nLe, ne_of_none eVe nLe⟩
    have F0 : F3 H1 cs.length gs.length Ca Ve Le (upd H2 Le (.lst (X.map V.int))) := ⟨f2.trans (sameNew nLe), ⟨cs, upNew nLe eCa, rfl, ok.cb⟩, ⟨_, upNew nLe eVe, by simp [zeros]; exact lN⟩, ⟨X, upd_same, lX⟩⟩
    generalize upd H2 Le (.lst (X.map V.int)) = H3 at F0 ⊢
    have eNx : ∀ {Hx : Hp}, Same H1 Hx → SqL K Hx nA (ns.map V.int) := fun s => SqL.of (s _ _ (s1 _ _ eN))
    -- first loop
    refine ⟨.ref p, rfl, p, _, 4, .ref w, rfl, rfl, eP2 F0.s, atI_nat (j := 4) rfl, w, rfl, ⟨_, SqL.of (F0.s _ _ eW)⟩, for_it (walk_list (K := K) (a := w) (xs := rs))
      (fun j σ Hj => ∃ (y7 y8 y9 : Option V), σ = [some (.ref st), some (.ref i), some (.ref nA), some (.ref p), some (.ref Ca), some (.ref Ve), some (.ref Le), y7, y8, y9, none, none, none, none, none, none] ∧ F3 H1 cs.length gs.length Ca Ve Le Hj)
      ⟨none, none, none, rfl, F0⟩ (fun j σ Hj _ h => by obtain ⟨_, _, _, _, s⟩ := h; exact SqL.of (s.s _ _ eW)) ?_ ?_⟩
    · rintro j v σ Hx Hj hlt ⟨y7, y8, y9, rfl, Fj⟩ ⟨rfl, hx⟩
      obtain ⟨T, g, fi, o, rfl, hT, hgl, hfl, hol⟩ := (hrs v (List.mem_of_getElem? hx)).tk (TupK.of Fj.s)
      have Fj' := Fj
      obtain ⟨sj, ⟨A, eA, lA, bA⟩, ⟨B, eB, lB⟩, ⟨C, eC, lC⟩⟩ := Fj'
      refine ⟨T, _, rfl, hT, rfl, _, _, rfl, _, _, rfl, _, _, rfl, rfl, ?_⟩
      refine ⟨.ref nA, rfl, .int (g : Nat), rfl, nA, _, g, .int (ns.getD g 0), rfl, rfl, eNx sj, atI_nat (atD (by omega)), .ref Le, rfl, .int (fi : Nat), rfl, Le, _, fi, .int (C.getD fi 0), rfl, rfl, SqL.of eC, atI_nat (atD (by omega)), _, _, rfl, .ref Ve, rfl, .int (g : Nat), rfl, Ve, _, _, g, rfl, rfl, eB, ixN_nat (by rw [List.length_map]; omega), ?_⟩
      rw [← List.map_set]
      have F1 := Fj.setB nu (B := B.set g (if C.getD fi 0 < ns.getD g 0 then C.getD fi 0 else ns.getD g 0)) (by rw [List.length_set]; exact lB)
      obtain ⟨sk, ⟨A, eA, lA, bA⟩, ⟨B2, eB2, lB2⟩, ⟨C2, eC2, lC2⟩⟩ := id F1
      refine ⟨.ref Le, rfl, .int (fi : Nat), rfl, Le, _, fi, .int (C2.getD fi 0), rfl, rfl, SqL.of eC2, atI_nat (atD (by omega)), .ref Ve, rfl, .int (g : Nat), rfl, Ve, _, g, .int (B2.getD g 0), rfl, rfl, SqL.of eB2, atI_nat (atD (by omega)), _, _, rfl, rfl, .ref Le, rfl, .int (fi : Nat), rfl, Le, _, _, fi, rfl, rfl, eC2, ixN_nat (by rw [List.length_map]; omega), ?_⟩
      rw [← List.map_set]
      exact ⟨_, _, _, rfl, F1.setC nu (by rw [List.length_set]; exact lC2)⟩
    rintro σ H4 ⟨y7, y8, y9, rfl, F4⟩
    -- second loop
    refine ⟨.ref p, rfl, p, _, 4, .ref w, rfl, rfl, eP2 F4.s, atI_nat (j := 4) rfl, w, rfl, ⟨_, SqL.of (F4.s _ _ eW)⟩, for_it (walk_list (K := K) (a := w) (xs := rs))
      (fun j σ Hj => ∃ (y7 y8 y9 y10 : Option V), σ = [some (.ref st), some (.ref i), some (.ref nA), some (.ref p), some (.ref Ca), some (.ref Ve), some (.ref Le), y7, y8, y9, y10, none, none, none, none, none] ∧ F3 H1 cs.length gs.length Ca Ve Le Hj)
      ⟨_, _, _, none, rfl, F4⟩ (fun j σ Hj _ h => by obtain ⟨_, _, _, _, _, s⟩ := h; exact SqL.of (s.s _ _ eW)) ?_ ?_⟩
    · rintro j v σ Hx Hj hlt ⟨y7, y8, y9, y10, rfl, Fj⟩ ⟨rfl, hx⟩
      obtain ⟨T, g, fi, o, rfl, hT, hgl, hfl, hol⟩ := (hrs v (List.mem_of_getElem? hx)).tk (TupK.of Fj.s)
      obtain ⟨gA, pA, hxg, hG, hP⟩ := grp_at hgs (List.getElem?_eq_getElem hgl)
      obtain ⟨sj, ⟨A, eA, lA, bA⟩, ⟨B, eB, lB⟩, ⟨C, eC, lC⟩⟩ := id Fj
      have s1j := s1.trans sj
      refine ⟨T, _, rfl, hT, rfl, _, _, rfl, _, _, rfl, _, _, rfl, rfl, ?_⟩
      refine ⟨.ref i, rfl, i, _, 1, .ref ga, rfl, rfl, sqS s1j hi, atI_nat (j := 1) rfl, .int (g : Nat), rfl, ga, _, g, .ref gA, rfl, rfl, sqS s1j hg, atI_nat hxg, gA, _, 1, _, rfl, rfl, sqS s1j hG, atI_nat (j := 1) rfl, .ref Ve, rfl, .int (g : Nat), rfl, Ve, _, g, .int (B.getD g 0), rfl, rfl, SqL.of eB, atI_nat (atD (by omega)), _, _, rfl, rfl, .ref Le, rfl, .int (fi : Nat), rfl, Le, _, fi, .int (C.getD fi 0), rfl, rfl, SqL.of eC, atI_nat (atD (by omega)), _, _, rfl, ?_⟩
      generalize (if C.getD fi 0 < gs[g].2 - B.getD g 0 then C.getD fi 0 else gs[g].2 - B.getD g 0) = mo
      refine ⟨.ref Ve, rfl, .int (g : Nat), rfl, Ve, _, g, .int (B.getD g 0), rfl, rfl, SqL.of eB, atI_nat (atD (by omega)), .int mo, rfl, _, _, rfl, rfl, .ref Ve, rfl, .int (g : Nat), rfl, Ve, _, _, g, rfl, rfl, eB, ixN_nat (by rw [List.length_map]; omega), ?_⟩
      rw [← List.map_set]
      have F1 := Fj.setB nu (B := B.set g (B.getD g 0 + mo)) (by rw [List.length_set]; exact lB)
      obtain ⟨sk, ⟨A, eA, lA, bA⟩, ⟨B2, eB2, lB2⟩, ⟨C2, eC2, lC2⟩⟩ := id F1
      refine ⟨.ref Le, rfl, .int (fi : Nat), rfl, Le, _, fi, .int (C2.getD fi 0), rfl, rfl, SqL.of eC2, atI_nat (atD (by omega)), .int mo, rfl, _, _, rfl, rfl, .ref Le, rfl, .int (fi : Nat), rfl, Le, _, _, fi, rfl, rfl, eC2, ixN_nat (by rw [List.length_map]; omega), ?_⟩
      rw [← List.map_set]
      exact ⟨_, _, _, _, rfl, F1.setC nu (by rw [List.length_set]; exact lC2)⟩
    rintro σ H5 ⟨y7, y8, y9, y10, rfl, F5⟩
    -- third loop
    refine ⟨.ref p, rfl, p, _, 4, .ref w, rfl, rfl, eP2 F5.s, atI_nat (j := 4) rfl, w, rfl, ⟨_, SqL.of (F5.s _ _ eW)⟩, for_it (walk_list (K := K) (a := w) (xs := rs))
      (fun j σ Hj => ∃ (y7 y8 y9 y10 y11 : Option V), σ = [some (.ref st), some (.ref i), some (.ref nA), some (.ref p), some (.ref Ca), some (.ref Ve), some (.ref Le), y7, y8, y9, y10, y11, none, none, none, none] ∧ F3 H1 cs.length gs.length Ca Ve Le Hj)
      ⟨_, _, _, _, none, rfl, F5⟩ (fun j σ Hj _ h => by obtain ⟨_, _, _, _, _, _, s⟩ := h; exact SqL.of (s.s _ _ eW)) ?_ ?_⟩
    · rintro j v σ Hx Hj hlt ⟨y7, y8, y9, y10, y11, rfl, Fj⟩ ⟨rfl, hx⟩
      obtain ⟨T, g, fi, o, rfl, hT, hgl, hfl, hol⟩ := (hrs v (List.mem_of_getElem? hx)).tk (TupK.of Fj.s)
      refine ⟨T, _, rfl, hT, rfl, _, _, rfl, _, _, rfl, _, _, rfl, rfl, ?_⟩
      cases o with
      | none =>
        refine ⟨.non, rfl, _, rfl, ?_⟩
        exact iteF ⟨_, _, _, _, _, rfl, Fj⟩
      | some qn =>
        have hqn := hol qn rfl
        refine ⟨.int (qn : Nat), rfl, _, rfl, ?_⟩
        refine iteT ?_
        refine ⟨.ref p, rfl, p, _, 4, .ref w, rfl, rfl, eP2 Fj.s, atI_nat (j := 4) rfl, w, rfl, ⟨_, SqL.of (Fj.s _ _ eW)⟩, fun Us nUs => lc_it (walk_list (K := K) (a := w) (xs := rs))
          (fun m Hm => Same Hj Hm ∧ ∃ us : List Int, Hm Us = some (.lst (us.map V.int)) ∧ us.length ≤ m) ⟨sameNew nUs, [], upd_same, Nat.le_refl _⟩ (fun m Hm _ h => SqL.of (h.1 _ _ (Fj.s _ _ eW))) ?_ ?_⟩
        · rintro m x Hm Hn hm ⟨sm, us, eU, lU⟩ ⟨rfl, hxm⟩
          obtain ⟨T2, g2, f2', o2, rfl, hT2, hg2, hf2, _⟩ := (hrs x (List.mem_of_getElem? hxm)).tk (TupK.of (Fj.s.trans sm))
          obtain ⟨_, _, ⟨B, eB, lB⟩, _⟩ := Fj.same sm
          refine ⟨T2, _, rfl, hT2, rfl, _, _, rfl, _, _, rfl, _, _, rfl, rfl, rfl, ?_⟩
          refine ⟨oP o2, rfl, .int (qn : Nat), rfl, by cases o2 <;> rfl, _, rfl, ?_⟩
          refine ite2 (fun h1 => ?_) (fun h1 => ?_)
          · refine ⟨.ref Ve, rfl, .int (g2 : Nat), rfl, Ve, _, g2, .int (B.getD g2 0), rfl, rfl, SqL.of eB, atI_nat (atD (by omega)), ?_⟩
            refine ⟨_, eU, Nat.lt_of_le_of_lt (show _ ≤ 100 by rw [List.length_map]; omega) (small (by decide)), samePut sm nUs, us ++ [B.getD g2 0], by rw [upd_same, List.map_append]; rfl, by rw [List.length_append]; simp only [List.length_cons, List.length_nil]; omega⟩
          · exact ⟨sm, us, eU, by omega⟩
        rintro Hm ⟨sm, us, eU, lU⟩
        have Fm := Fj.same sm
        obtain ⟨sk, ⟨A, eA, lA, bA⟩, _, _⟩ := id Fm
        refine ⟨_, _, rfl, rfl, ⟨by decide, by decide, by decide⟩, ?_⟩
        refine ⟨.ref Ca, rfl, .int (qn : Nat), rfl, Ca, _, qn, .int (A.getD qn 0), rfl, rfl, SqL.of eA, atI_nat (atD (by omega)), ?_⟩
        refine ⟨.ref p, rfl, p, _, 0, .ref d, rfl, rfl, eP2 sk, atI_nat (j := 0) rfl, .int (qn : Nat), rfl, d, _, qn, .int (D.getD qn 0), rfl, rfl, SqL.of (sk _ _ eD), atI_nat (atD (by omega)), .ref Us, rfl, Us, us, rfl, SqL.of eU, _, _, rfl, rfl, _, _, rfl, _, _, rfl, .ref Ca, rfl, .int (qn : Nat), rfl, Ca, _, _, qn, rfl, rfl, eA, ixN_nat (by rw [List.length_map]; omega), ?_⟩
        rw [← List.map_set]
        have hA0 : 1 ≤ A.getD qn 0 ∧ A.getD qn 0 ≤ 10 ^ 12 := bA _ (by rw [List.getD_eq_getElem?_getD, List.getElem?_eq_getElem (by omega)]; exact List.getElem_mem _)
        refine ⟨_, _, _, _, _, rfl, Fm.setA nu (by rw [List.length_set]; exact lA) fun c hc => ?_⟩
        rcases mem_set_or hc with h | h
        · exact bA c h
        · subst h
          rw [show (10 : Int) ^ (12 : Int).toNat = 10 ^ 12 from rfl]
          constructor <;> (repeat' split) <;> omega
    rintro σ H6 ⟨y7, y8, y9, y10, y11, rfl, F6⟩
    obtain ⟨s16, ⟨A0, eA0, lA0, bA0⟩, ⟨B, eB, lB⟩, _⟩ := F6
    have s06 := s1.trans s16
    have fCa : H Ca = none := freeZ s1 nu.a
    have fVe : H Ve = none := freeZ s1 nu.b
    have oC := D0.off fCa
    have oV := D0.off fVe
    have oD := D0.off fd0
    have oP' := D0.off fp
    have eD6 := s16 _ _ eD
    have nCD : d ≠ Ca := ne_of_none eD nu.a
    have nCV : Ve ≠ Ca := nu.ab.symm
    have nCp : p ≠ Ca := ne_of_none eP nu.a
    have eP6 := s16 _ _ eP
    have hI6 := (TupK.of s06).dp _ _ (to_dInst _ _) hI
    refine ⟨.ref Ca, rfl, Ca, _, rfl, .inl (SqL.of eA0), _, rfl, by rw [List.length_map]; omega, by rw [List.length_map]; omega, for_it (walk_range (lo := 0) (n := (((A0.map V.int).length : Nat) : Int).toNat))
      (fun j σ Hj => ∃ (y12 : Option V) (tj : Nat) (A : List Int), σ = [some (.ref st), some (.ref i), some (.ref nA), some (.ref p), some (.ref Ca), some (.ref Ve), some (.ref Le), y7, y8, y9, y10, y11, y12, none, none, none] ∧ DU Hj st c r tj ∧ tj ≤ t + j ∧ Ext st r H Hj ∧ Hj p = some (.lst [.ref d, .ref e, .ref f, .ref cr, .ref w, .ref ca']) ∧ Hj d = some (.lst (D.map V.int)) ∧ Hj Ve = some (.lst (B.map V.int)) ∧ Hj Ca = some (.lst (A.map V.int)) ∧ A.length = cs.length ∧ ∀ c ∈ A, 1 ≤ c ∧ c ≤ 10 ^ 12)
      ⟨none, t, A0, rfl, D0.same s06, by omega, Ext.of s06, eP6, eD6, eB, eA0, lA0, bA0⟩ (fun _ _ _ _ _ => trivial) ?_ ?_⟩
    · rintro j v σ Hx Hj hlt ⟨y12, tj, A, rfl, Dj, htj, xj, ePj, eDj, eVj, eAj, lA, bA⟩ ⟨rfl, rfl⟩
      rw [List.length_map] at hlt
      have hj : j < cs.length := by omega
      rw [show (fun i : Nat => V.int (0 + (i : Int))) = fun i : Nat => V.int (i : Int) from funext fun i => by rw [Int.zero_add]]
      refine ⟨.ref p, rfl, p, _, 0, .ref d, rfl, rfl, SqL.of ePj, atI_nat (j := 0) rfl, .int (j : Nat), rfl, d, _, j, .int (D.getD j 0), rfl, rfl, SqL.of eDj, atI_nat (atD (by omega)), rfl, _, rfl, ?_⟩
      refine ite2 (fun h1 => ?_) (fun h1 => ?_)
      · refine ⟨_, _, rfl, rfl, ⟨by decide, by decide, by decide⟩, .ref Ca, rfl, .int (j : Nat), rfl, Ca, _, j, .int (A.getD j 0), rfl, rfl, SqL.of eAj, atI_nat (atD (by omega)), .ref st, rfl, st, c, r, tj, 3, rfl, Dj, by omega, by decide, by decide, fun Ha z hz0 hz1 Da Xa => ?_⟩
        have eAa := Xa _ _ eAj oC.1 oC.2.2
        refine ⟨_, _, rfl, rfl, _, _, rfl, .ref Ca, rfl, .int (j : Nat), rfl, Ca, _, _, j, rfl, rfl, eAa, ixN_nat (by rw [List.length_map]; omega), ?_⟩
        rw [← List.map_set]
        have hA0 : 1 ≤ A.getD j 0 ∧ A.getD j 0 ≤ 10 ^ 12 := bA _ (by rw [List.getD_eq_getElem?_getD, List.getElem?_eq_getElem (by omega)]; exact List.getElem_mem _)
        refine ⟨_, tj + 1, _, rfl, Da.put oC, by omega, ExtPut (xj.trans Xa) fCa, by rw [upd_ne nCp]; exact Xa _ _ ePj oP'.1 oP'.2.2, by rw [upd_ne nCD]; exact Xa _ _ eDj oD.1 oD.2.2, by rw [upd_ne nCV]; exact Xa _ _ eVj oV.1 oV.2.2, upd_same, by rw [List.length_set]; exact lA, fun c hc => ?_⟩
        rcases mem_set_or hc with h | h
        · exact bA c h
        · subst h
          rw [show (10 : Int) ^ (12 : Int).toNat = 10 ^ 12 from rfl]
          constructor <;> (repeat' split) <;> omega
      · exact ⟨_, tj, A, rfl, Dj, by omega, xj, ePj, eDj, eVj, eAj, lA, bA⟩
    · rintro σ Hx ⟨y12, tj, A, rfl, Dj, htj, xj, ePj, eDj, eVj, eAj, lA, bA⟩
      rw [List.length_map] at htj
      have tkj := D0.tup xj
      refine ⟨.ref Ca, rfl, Ca, _, rfl, .inl ⟨SqL.of eAj, fun Tc nTc => ?_⟩⟩
      have z1 := sameNew (o := .tup (A.map V.int)) nTc
      refine ⟨.ref i, rfl, i, _, 1, .ref ga, rfl, rfl, (TupK.of z1).sq (tkj.sq hi), atI_nat (j := 1) rfl, (show (2 : Nat) ≤ sizeLine by decide), fun I2 nI2 => ?_⟩
      have z2 := z1.trans (sameNew (o := .tup [.ref Tc, .ref ga]) nI2)
      refine ⟨.ref Ve, rfl, Ve, _, rfl, .inl ⟨SqL.of (z2 _ _ eVj), fun Tv nTv => ⟨(show (2 : Nat) ≤ sizeLine by decide), fun p' np => ?_⟩⟩⟩
      have z34 := (sameNew (o := .tup (B.map V.int)) nTv).trans (sameNew (o := .lst [.ref I2, .ref Tv]) np)
      have z4 := z2.trans z34
      refine q _ p' I2 Tv tj A (Dj.same z4) (by omega) (xj.trans (Ext.of z4)) (SqL.of upd_same) ?_ ⟨by rw [lA]; exact ok.c1, by rw [lA]; exact ok.c6, bA, ok.g1, ok.g10, fun g hg => ?_⟩
      · refine .tup ((TupK.of z34).sq (SqT.of upd_same)) (.cons (dI_sq ((TupK.of ((sameNew nI2).trans z34)).sq (SqT.of upd_same))) (.cons (.tup ((tkj.trans (TupK.of z4)).sq hg) ((tkj.trans (TupK.of z4)).dpAll _ _ (to_grps _) hgs)) .nil))
      · have := ok.gp g hg
        rw [lA]; exact this
end
end Pv

namespace Pv
open PySem PySem.Spec PyProof.Rows L2
abbrev sPl : Stmt := topS 20
theorem scPl : FnScope ["_law_deck_here", "_law_most", "_law_posts", "_law_firsts", "_law_groups", "_law_numbers", "_law_group", "_law_count", "_law_demand", "_law_moved", "_law_order", "_law_number", "_law_post", "_law_capacities", "_law_some", "_law_capacity"] ["_law_deck_here", "_law_most"] (defScope sPl) := ⟨rfl, rfl, rfl, by decide +kernel, rfl, by decide +kernel, by decide +kernel⟩
section
variable {P : Program} {w : World} {K : PySem.W.Frag} {mg : Str → Option Value} {base : Heap}
theorem walk_zipL {K : PySem.W.Frag} {a b : Addr} {xs ys : List V} {n : Nat} (hn : n = min xs.length ys.length) :
    Walk (Itz K a b) n (fun H => SqL K H a xs ∧ SqL K H b ys) (YPair (fun i => xs[i]?) (fun i => ys[i]?)) := by
  subst hn
  constructor
  · rintro i H hi ⟨q1, q2⟩
    have h1 : i < xs.length := by omega
    have h2 : i < ys.length := by omega
    exact ⟨xs, ys, xs[i], ys[i], q1, q2, by simp [h1], by simp [h2]⟩
  · rintro H ⟨q1, q2⟩
    exact ⟨xs, ys, q1, q2, by omega⟩
  · rintro i H v H' _ ⟨q1, q2⟩ ⟨T, x, z, h1, h2, h3, h4, h5⟩
    exact ⟨T, x, z, h1, h2, h3, h4 xs q1, h5 ys q2⟩
def spPl (K : PySem.W.Frag) : Sp := fun vs H Q _ => ∃ (st c r : Addr) (t : Nat) (m : Int), vs = [.ref st, .int m] ∧ DU H st c r t ∧ t + 500 < 900000 ∧ 1 ≤ m ∧ m ≤ 10 ^ 12 ∧
  ∀ (H' : Hp) (p i' v : Addr) (t' : Nat) (cs' : List Int) (gs : List Gp), DU H' st c r t' → t' ≤ t + 400 → Ext st r H H' → SqL K H' p [.ref i', .ref v] → Dp K H' (.ref i') (dInst cs' gs) → InsOk cs' gs → Q (.ref p) H'
set_option maxHeartbeats 16000000 in
theorem ok_Pl {f fDr fAm fLi fFi : Addr} {fd fdDr fdAm fdLi fdFi : FuncData} (F : Fun K "_law_planned" "_law_planned" sPl f fd)
    (FDr : Fun K "_law_draw" "_law_draw" sDr fDr fdDr) (bDr : Binds K fdDr ["_law_deck_here", "_law_many"] []) (gDr : mg "_law_draw" = some (.ref fDr)) (GDr : FnOk P w K mg base CX0 1 fDr fdDr ["_law_deck_here", "_law_many"] spDraw)
    (FAm : Fun K "_law_amount" "_law_amount" sAm fAm fdAm) (bAm : Binds K fdAm ["_law_deck_here", "_law_most"] []) (gAm : mg "_law_amount" = some (.ref fAm)) (GAm : FnOk P w K mg base CX0 2 fAm fdAm ["_law_deck_here", "_law_most"] spAm)
    (FLi : Fun K "_law_lines" "_law_lines" sLi fLi fdLi) (bLi : Binds K fdLi ["_law_deck_here", "_law_posts"] []) (gLi : mg "_law_lines" = some (.ref fLi)) (GLi : FnOk P w K mg base CX0 3 fLi fdLi ["_law_deck_here", "_law_posts"] (spLi K))
    (FFi : Fun K "_law_fitted" "_law_fitted" sFi fFi fdFi) (bFi : Binds K fdFi ["_law_deck_here", "_law_instance", "_law_numbers"] []) (gFi : mg "_law_fitted" = some (.ref fFi)) (GFi : FnOk P w K mg base CX0 2 fFi fdFi ["_law_deck_here", "_law_instance", "_law_numbers"] (spFi K))
    (m_max : mg "max" = none) (m_range : mg "range" = none) (m_zip : mg "zip" = none) (m_int : mg "int" = none) (m_min : mg "min" = none) (m_tuple : mg "tuple" = none) :
    FnOk P w K mg base CX0 5 f fd ["_law_deck_here", "_law_most"] (spPl K) := by
  refine F.ok scPl (fun vs H Q E h => ?_) (fun cdv A outer s H vs Q E hr h => ?_)
  · obtain ⟨st, c, r, t, m, rfl, _⟩ := h; rfl
  · obtain ⟨st, c, r, t, m, rfl, D0, ht, hm1, hm2, q⟩ := h
    refine ⟨_, pss_cons (ps_set (i := 2) scPl.nd rfl (.inl rfl) (pe_op op_add (pe_int) (pe_call GDr (hr.mono (by omega)) (by rfl) gDr FDr.kp bDr .nil pass0 (pa_cons (pv 0) (pa_cons (pe_int) pa_nil)))))
      (pss_cons (ps_set (i := 3) scPl.nd rfl (.inl rfl) (pe_callB (call_max2 rfl) (by rfl) m_max (by decide +kernel) (pa_cons (pe_int) (pa_cons (pe_op op_fdiv (pv 2) (pe_int)) pa_nil))))
      (pss_cons (ps_par (i := 4) (j := 5) rfl scPl.nd rfl rfl (by decide) rfl rfl (pa_cons (pe_lst (pa_nil)) (pa_cons (pe_lst (pa_nil)) pa_nil)) rfl)
      (pss_cons (ps_for PassesOwn.never rfl (pi_range1 (by rfl) m_range (pa_cons (pe_op op_add (pe_int) (pe_call GDr (hr.mono (by omega)) (by rfl) gDr FDr.kp bDr .nil pass0 (pa_cons (pv 0) (pa_cons (pe_int) pa_nil)))) pa_nil)) (pg_name (i := 6) scPl.nd rfl (.inl rfl))
        (pss_cons (ps_set (i := 7) scPl.nd rfl (.inl rfl) (pe_op op_add (pe_int) (pe_call GAm (hr.mono (by omega)) (by rfl) gAm FAm.kp bAm .nil pass0 (pa_cons (pv 0) (pa_cons (pe_op op_sub (pv 1) (pe_int)) pa_nil)))))
        (pss_cons (ps_expr (pe_bm PySem.F.plainAttrs_list PySem.F.slot_list_append PySem.F.type_list_append mt_append (pv 4) (pa_cons (pe_tup (pa_cons (pe_call GLi (hr.mono (by omega)) (by rfl) gLi FLi.kp bLi .nil pass0 (pa_cons (pv 0) (pa_cons (pv 2) pa_nil))) (pa_cons (pv 7) pa_nil))) pa_nil)))
        (pss_one (ps_expr (pe_bm PySem.F.plainAttrs_list PySem.F.slot_list_append PySem.F.type_list_append mt_append (pv 5) (pa_cons (pe_call GAm (hr.mono (by omega)) (by rfl) gAm FAm.kp bAm .nil pass0 (pa_cons (pv 0) (pa_cons (pv 7) pa_nil))) pa_nil)))))))
      (pss_cons (ps_par (i := 8) (j := 9) rfl scPl.nd rfl rfl (by decide) rfl rfl (pa_cons (pe_op op_rep (pe_lst (pa_cons (pe_int) pa_nil)) (pv 2)) (pa_cons (pe_op op_rep (pe_lst (pa_cons (pe_int) pa_nil)) (pv 2)) pa_nil)) rfl)
      (pss_cons (ps_for PassesOwn.never rfl (RZ.pi_zipA (by rfl) m_zip (pa_cons (pv 4) (pa_cons (pv 5) pa_nil))) (pg_tup rfl (pgs_cons (pg_tup rfl (pgs_cons (pg_name (i := 10) scPl.nd rfl (.inl rfl)) (pgs_cons (pg_name (i := 7) scPl.nd rfl (.inl rfl)) pgs_nil))) (pgs_cons (pg_name (i := 11) scPl.nd rfl (.inl rfl)) pgs_nil)))
        (pss_one (ps_for PassesOwn.never rfl (pi_tup (pe_slice sl_tupA (pv 10) po_none (po_some (pe_int)))) (pg_name (i := 12) scPl.nd rfl (.inl rfl))
          (pss_cons (ps_asg (pe_op op_add (pe_ix ix_list (pv 8) (pv 12) (fun _ _ => rfl)) (pv 7)) (pg_sub (pv 8) (pv 12) set_list))
          (pss_one (ps_asg (pe_op op_add (pe_ix ix_list (pv 9) (pv 12) (fun _ _ => rfl)) (pv 11)) (pg_sub (pv 9) (pv 12) set_list)))))))
      (pss_cons (ps_set (i := 13) scPl.nd rfl (.inl rfl) (pe_lst (pa_nil)))
      (pss_cons (ps_for PassesOwn.never rfl (pi_range1 (by rfl) m_range (pa_cons (pv 2) pa_nil)) (pg_name (i := 12) scPl.nd rfl (.inl rfl))
        (pss_cons (ps_set (i := 14) scPl.nd rfl (.inl rfl) (pe_op op_sub (pe_ix ix_list (pv 8) (pv 12) (fun _ _ => rfl)) (pe_ix ix_list (pv 9) (pv 12) (fun _ _ => rfl))))
        (pss_one (ps_expr (pe_bm PySem.F.plainAttrs_list PySem.F.slot_list_append PySem.F.type_list_append mt_append (pv 13) (pa_cons (pe_ix ix_list (pe_lst (pa_cons (pe_callB (call_max2 rfl) (by rfl) m_max (by decide +kernel) (pa_cons (pe_int) (pa_cons (pv 14) pa_nil))) (pa_cons (pe_op op_add (pe_int) (pe_call GDr (hr.mono (by omega)) (by rfl) gDr FDr.kp bDr .nil pass0 (pa_cons (pv 0) (pa_cons (pe_int) pa_nil)))) pa_nil))) (pe_callTy call_int1 (by rfl) m_int (by decide +kernel) (pa_cons (pe_cmpR op_eq (pe_ix ix_list (pv 8) (pv 12) (fun _ _ => rfl)) (pe_int) (nomark _)) pa_nil)) (fun _ _ => rfl)) pa_nil))))))
      (pss_cons (ps_setLc (i := 13) (own := [("_law_capacity", 15)]) (g := gName 15) (tt := tYes) (te := tCB (fun xs H Q => ∃ i j, xs = [.int i, .int j] ∧ Q (.int (if j < i then j else i)) H) (tCons (tVar 15) (tCons (tOp (rI CPow fun i j => .int (i ^ j.toNat)) (tC (.int 10)) (tC (.int 12))) tNil))) rfl scPl.nd rfl rfl (sw_true rfl rfl rfl (by decide +kernel)) (pi_list (pv 13)) (blkOk_by (N := ["_law_deck_here", "_law_most", "_law_posts", "_law_firsts", "_law_groups", "_law_numbers", "_law_group", "_law_count", "_law_demand", "_law_moved", "_law_order", "_law_number", "_law_post", "_law_capacities", "_law_some", "_law_capacity"]) (sc := defScope sPl) (by decide +kernel)) (fun _ _ _ _ _ => pg_name (i := 15) scPl.nd rfl (.inl rfl)) (fun _ _ _ _ _ => pts_nil) (fun _ _ _ _ _ => pe_callB (call_min2 rfl) (by rfl) m_min (by decide +kernel) (pa_cons (pv 15) (pa_cons (pe_op op_pow (pe_int) (pe_int)) pa_nil))))
      (pss_one (ps_ret (pe_call GFi (hr.mono (by omega)) (by rfl) gFi FFi.kp bFi .nil pass0 (pa_cons (pv 0) (pa_cons (pe_tup (pa_cons (pe_callTy call_tupQ (by rfl) m_tuple (by decide +kernel) (pa_cons (pv 13) pa_nil)) (pa_cons (pe_callTy call_tupQ (by rfl) m_tuple (by decide +kernel) (pa_cons (pv 4) pa_nil)) pa_nil))) (pa_cons (pv 5) pa_nil)))))))))))))), ?_⟩
    have sz := small (n := 100) (by decide)
    refine ⟨.ref st, rfl, st, c, r, t, 6, rfl, D0, by omega, by decide, by decide, fun H1 n0 h10 h11 D1 X1 => ⟨_, _, rfl, rfl, ?_⟩⟩
    obtain ⟨n, hn⟩ : ∃ n : Nat, 1 + n0 = n := ⟨(1 + n0).toNat, by omega⟩
    dsimp only
    rw [hn]
    have hn1 : 1 ≤ n ∧ n ≤ 6 := by omega
    refine ⟨.int (n : Nat), rfl, _, _, rfl, rfl, ⟨by decide, by decide⟩, _, _, rfl, ?_⟩
    dsimp only
    generalize (if (n : Int) / 2 > 1 then (n : Int) / 2 else 1) = fir
    refine ⟨Nat.zero_le _, fun G nG => ⟨Nat.zero_le _, fun N nN => ⟨_, _, rfl, ?_⟩⟩⟩
    have oG := D1.off nG
    have D2 := (D1.new nG (o := .lst [])).new nN (o := .lst [])
    have oN := (D1.new nG (o := .lst [])).off nN
    have fG : H G = none := D1.nil X1 nG
    have fN : H N = none := (D1.new nG (o := .lst [])).nil (X1.trans (Ext.of (sameNew nG))) nN
    have nGN : G ≠ N := ne_of_none upd_same nN
    have eG : (upd (upd H1 G (.lst [])) N (.lst [])) G = some (.lst []) := upNew nN upd_same
    have eN : (upd (upd H1 G (.lst [])) N (.lst [])) N = some (.lst []) := upd_same
    have X2 : Ext st r H (upd (upd H1 G (.lst [])) N (.lst [])) := X1.trans ((Ext.of (sameNew nG)).trans (Ext.of (sameNew nN)))
    generalize upd (upd H1 G (.lst [])) N (.lst []) = H2 at D2 eG eN X2 ⊢
    refine ⟨.ref st, rfl, st, c, r, t + 1, 10, rfl, D2, by omega, by decide, by decide, fun H3 k hk0 hk1 D3 X3 => ⟨_, _, rfl, rfl, ?_⟩⟩
    have X03 := X2.trans X3
    refine ⟨_, rfl, by omega, by omega, for_it (walk_range (lo := 0) (n := (1 + k).toNat))
      (fun j σ Hj => ∃ (y6 y7 : Option V) (tj : Nat) (vs : List V) (gs : List Gp) (ns : List Int), σ = [some (.ref st), some (.int m), some (.int (n : Nat)), some (.int fir), some (.ref G), some (.ref N), y6, y7, none, none, none, none, none, none, none, none] ∧ DU Hj st c r tj ∧ tj ≤ t + 2 + 26 * j ∧ Ext st r H Hj ∧ Hj G = some (.lst vs) ∧ DpAll K Hj vs (gs.map dGrp) ∧ gs.length = j ∧ Hj N = some (.lst (ns.map V.int)) ∧ ns.length = j ∧ ∀ g ∈ gs, g.1.length ≤ 6 ∧ (∀ p ∈ g.1, 0 ≤ p ∧ p < (n : Int)) ∧ 1 ≤ g.2 ∧ g.2 ≤ 10 ^ 12)
      ⟨none, none, t + 2, [], [], [], rfl, D3, by omega, X03, X3 _ _ eG oG.1 oG.2.2, .nil, rfl, X3 _ _ eN oN.1 oN.2.2, rfl, by simp⟩ (fun _ _ _ _ _ => trivial) ?_ ?_⟩
    · rintro j v σ Hx Hj hlt ⟨y6, y7, tj, vs, gs, ns, rfl, Dj, htj, xj, eGj, hvs, lgs, eNj, lns, bgs⟩ ⟨rfl, rfl⟩
      have hj : j < 10 := by omega
      have lvs := DpAll.len hvs
      rw [List.length_map] at lvs
      refine ⟨.ref st, rfl, .int m, rfl, _, _, rfl, rfl, st, c, r, tj, m - 1, rfl, Dj, by omega, by omega, by omega, fun Ha a ha0 ha1 Da Xa => ⟨_, _, rfl, rfl, ?_⟩⟩
      obtain ⟨cn, hcn⟩ : ∃ cn : Int, 1 + a = cn := ⟨_, rfl⟩
      dsimp only
      rw [hcn]
      refine ⟨.ref G, rfl, .inl ⟨rfl, _, SqL.of (Xa _ _ eGj oG.1 oG.2.2)⟩, .ref st, rfl, .int (n : Nat), rfl, st, c, r, _, n, rfl, Da, by omega, hn1.1, hn1.2, fun Hb P tb ps Db htb Xb hP hnd hpb hpl => ⟨.int cn, rfl, (show (2 : Nat) ≤ sizeLine by decide), fun T nT => ?_⟩⟩
      have sT := sameNew (o := .tup [.ref P, .int cn]) nT
      have xab := (Xa.trans Xb).trans (Ext.of sT)
      have eGb := xab _ _ eGj oG.1 oG.2.2
      have eNb := xab _ _ eNj oN.1 oN.2.2
      have tkb := Dj.tup xab
      refine ⟨G, vs, _, rfl, rfl, eGb, Nat.lt_of_le_of_lt (show vs.length ≤ 100 by omega) (small (by decide)), ?_⟩
      have Dc := (Db.same sT).put oG (o := .lst (vs ++ [.ref T]))
      have tkc := TupK.put (o := .lst (vs ++ [.ref T])) eGb
      have xc : Ext st r H (upd (upd Hb T (.tup [.ref P, .int cn])) G (.lst (vs ++ [.ref T]))) := ExtPut (xj.trans xab) fG
      have eNc : (upd (upd Hb T (.tup [.ref P, .int cn])) G (.lst (vs ++ [.ref T]))) N = some (.lst (ns.map V.int)) := by rw [upd_ne nGN.symm]; exact eNb
      have eGc : (upd (upd Hb T (.tup [.ref P, .int cn])) G (.lst (vs ++ [.ref T]))) G = some (.lst (vs ++ [.ref T])) := upd_same
      have hvc : DpAll K (upd (upd Hb T (.tup [.ref P, .int cn])) G (.lst (vs ++ [.ref T]))) (vs ++ [.ref T]) ((gs ++ [(ps, cn)]).map dGrp) := by
        rw [List.map_append]
        refine DpAll.snoc ((tkb.trans tkc).dpAll _ _ (to_grps _) hvs) ?_
        exact .tup (tkc.sq (SqT.of upd_same)) (.cons (dI_sq (tkc.sq ((TupK.of sT).sq hP))) (.cons (.int _) .nil))
      generalize upd (upd Hb T (.tup [.ref P, .int cn])) G (.lst (vs ++ [.ref T])) = Hc at Dc xc eNc eGc hvc ⊢
      refine ⟨.ref N, rfl, .inl ⟨rfl, _, SqL.of eNc⟩, .ref st, rfl, .int cn, rfl, st, c, r, tb, cn, rfl, Dc, by omega, by omega, by omega, fun Hd z hz0 hz1 Dd Xd => ⟨N, ns.map V.int, _, rfl, rfl, Xd _ _ eNc oN.1 oN.2.2, Nat.lt_of_le_of_lt (show (ns.map V.int).length ≤ 100 by rw [List.length_map]; omega) (small (by decide)), ?_⟩⟩
      refine ⟨_, _, tb + 3, vs ++ [.ref T], gs ++ [(ps, cn)], ns ++ [z], rfl, Dd.put oN, by omega, ExtPut (xc.trans Xd) fN, by rw [upd_ne nGN]; exact Xd _ _ eGc oG.1 oG.2.2, ((Dc.tup Xd).trans (TupK.put (Xd _ _ eNc oN.1 oN.2.2))).dpAll _ _ (to_grps _) hvc, by rw [List.length_append]; simp only [List.length_cons, List.length_nil]; omega, by rw [upd_same, List.map_append]; rfl, by rw [List.length_append]; simp only [List.length_cons, List.length_nil]; omega, fun g hg => ?_⟩
      rcases List.mem_append.mp hg with h | h
      · exact bgs g h
      · have e : g = (ps, cn) := by simpa using h
        subst e
        exact ⟨hpl, hpb, by show 1 ≤ cn; omega, by show cn ≤ 10 ^ 12; omega⟩
    rintro σ H4 ⟨y6, y7, t4, vs, gs, ns, rfl, D4, ht4, x4, eG4, hvs, lgs, eN4, lns, bgs⟩
    have lvs := DpAll.len hvs
    rw [List.length_map] at lvs
    -- demand and moved
    refine ⟨by decide, fun p0 n0 => ⟨.int (n : Nat), rfl, p0, _, _, rfl, rfl, upd_same, by omega, by omega, ?_, fun Dm nDm => ?_⟩⟩
    · show 1 * _ ≤ sizeLine; have := small (n := n) (by omega); simp; omega
    have s5 := (sameNew (o := .lst [.int 0]) n0).trans (sameNew (o := .lst (List.replicate ((n : Nat) : Int).toNat [V.int 0]).flatten) nDm)
    have eDm : (upd (upd H4 p0 (.lst [.int 0])) Dm (.lst (List.replicate ((n : Nat) : Int).toNat [V.int 0]).flatten)) Dm = some (.lst ((zeros n).map V.int)) := by
      rw [upd_same, zeros_V]; rfl
    have fDm : H4 Dm = none := freeZ (sameNew (o := .lst [.int 0]) n0) nDm
    generalize upd (upd H4 p0 (.lst [.int 0])) Dm (.lst (List.replicate ((n : Nat) : Int).toNat [V.int 0]).flatten) = H5 at s5 eDm ⊢
    refine ⟨by decide, fun p1 n1 => ⟨.int (n : Nat), rfl, p1, _, _, rfl, rfl, upd_same, by omega, by omega, ?_, fun Mv nMv => ⟨_, _, rfl, ?_⟩⟩⟩
    · show 1 * _ ≤ sizeLine; have := small (n := n) (by omega); simp; omega
    have s56 := (sameNew (o := .lst [.int 0]) n1).trans (sameNew (o := .lst (List.replicate ((n : Nat) : Int).toNat [V.int 0]).flatten) nMv)
    have s6 := s5.trans s56
    have eMv : (upd (upd H5 p1 (.lst [.int 0])) Mv (.lst (List.replicate ((n : Nat) : Int).toNat [V.int 0]).flatten)) Mv = some (.lst ((zeros n).map V.int)) := by
      rw [upd_same, zeros_V]; rfl
    have fMv : H4 Mv = none := freeZ (s5.trans (sameNew (o := .lst [.int 0]) n1)) nMv
    have nDMv : Dm ≠ Mv := ne_of_none (upNew n1 eDm) nMv
    have eDm6 := s56 _ _ eDm
    generalize upd (upd H5 p1 (.lst [.int 0])) Mv (.lst (List.replicate ((n : Nat) : Int).toNat [V.int 0]).flatten) = H6 at s56 s6 eMv eDm6 ⊢
    refine ⟨.ref G, rfl, .ref N, rfl, G, N, _, _, rfl, .inl ⟨SqL.of (s6 _ _ eG4), SqL.of (s6 _ _ eN4), for_it (walk_zipL (K := K) (a := G) (b := N) (xs := vs) (ys := ns.map V.int) rfl)
      (fun j σ Hj => ∃ (y7 y10 y11 y12 : Option V) (ds ms : List Int), σ = [some (.ref st), some (.int m), some (.int (n : Nat)), some (.int fir), some (.ref G), some (.ref N), y6, y7, some (.ref Dm), some (.ref Mv), y10, y11, y12, none, none, none] ∧ Same H4 Hj ∧ Hj Dm = some (.lst (ds.map V.int)) ∧ ds.length = n ∧ Hj Mv = some (.lst (ms.map V.int)) ∧ ms.length = n)
      ⟨_, none, none, none, _, _, rfl, s6, eDm6, by simp [zeros], eMv, by simp [zeros]⟩ (fun j σ Hj _ h => by obtain ⟨_, _, _, _, _, _, _, s, _⟩ := h; exact ⟨SqL.of (s _ _ eG4), SqL.of (s _ _ eN4)⟩) ?_ ?_⟩⟩
    · rintro j v σ Hj Hx hlt ⟨y7, y10, y11, y12, ds, ms, rfl, sj, eD, lD, eM, lM⟩ ⟨T, x, y, rfl, nT, rfl, hx, hy⟩
      have hx : vs[j]? = some x := hx
      have hy : (ns.map V.int)[j]? = some y := hy
      rw [List.getElem?_map] at hy
      obtain ⟨nn, hnn, rfl⟩ := Option.map_eq_some_iff.mp hy
      obtain ⟨d, hd, hxd⟩ := DpAll.at hvs hx
      rw [List.getElem?_map] at hd
      obtain ⟨g, hgj, rfl⟩ := Option.map_eq_some_iff.mp hd
      obtain ⟨gA, pA, rfl, hG, hP⟩ := grp_ref hxd
      have gb := bgs g (List.mem_of_getElem? hgj)
      have sT := sj.trans (sameNew (o := .tup [.ref gA, .int nn]) nT)
      refine ⟨T, _, rfl, SqT.of upd_same, rfl, _, _, rfl, gA, _, rfl, sqS sT hG, rfl, _, _, rfl, _, _, rfl, rfl, _, _, rfl, rfl, ?_⟩
      refine ⟨.ref pA, rfl, 1, rfl, take_eq (sqS sT hP) 1 (fun H7 b s7 hb => ⟨b, rfl, ⟨_, hb⟩, for_it (walk_tup (K := K) (a := b) (xs := (g.1.map V.int).take 1))
        (fun k σ Hk => ∃ (y12 : Option V) (ds ms : List Int), σ = [some (.ref st), some (.int m), some (.int (n : Nat)), some (.int fir), some (.ref G), some (.ref N), y6, some (.int g.2), some (.ref Dm), some (.ref Mv), some (.ref pA), some (.int nn), y12, none, none, none] ∧ Same H4 Hk ∧ TupK H7 Hk ∧ Hk Dm = some (.lst (ds.map V.int)) ∧ ds.length = n ∧ Hk Mv = some (.lst (ms.map V.int)) ∧ ms.length = n)
        ⟨_, ds, ms, rfl, sT.trans s7, TupK.refl _, s7 _ _ (upNew nT eD), lD, s7 _ _ (upNew nT eM), lM⟩ (fun k σ Hk _ h => by obtain ⟨_, _, _, _, _, t, _⟩ := h; exact t.sq hb) ?_ ?_⟩)⟩
      · rintro k v σ Hy Hz hltk ⟨y12, ds, ms, rfl, sz', tz, eD, lD, eM, lM⟩ ⟨rfl, hxk⟩
        have hxk : ((g.1.map V.int).take 1)[k]? = some v := hxk
        have hm := List.mem_of_mem_take (List.mem_of_getElem? hxk)
        obtain ⟨pp, hpp, rfl⟩ := List.mem_map.mp hm
        have hpr := gb.2.1 pp hpp
        obtain ⟨pn, rfl⟩ : ∃ pn : Nat, pp = pn := ⟨pp.toNat, by omega⟩
        refine ⟨.ref Dm, rfl, .int (pn : Nat), rfl, Dm, _, pn, .int (ds.getD pn 0), rfl, rfl, SqL.of eD, atI_nat (atD (by omega)), .int g.2, rfl, _, _, rfl, rfl, .ref Dm, rfl, .int (pn : Nat), rfl, Dm, _, _, pn, rfl, rfl, eD, ixN_nat (by rw [List.length_map]; omega), ?_⟩
        rw [← List.map_set]
        have eM1 : (upd Hz Dm (.lst ((ds.set pn (ds.getD pn 0 + g.2)).map V.int))) Mv = some (.lst (ms.map V.int)) := by rw [upd_ne nDMv.symm]; exact eM
        refine ⟨.ref Mv, rfl, .int (pn : Nat), rfl, Mv, _, pn, .int (ms.getD pn 0), rfl, rfl, SqL.of eM1, atI_nat (atD (by omega)), .int nn, rfl, _, _, rfl, rfl, .ref Mv, rfl, .int (pn : Nat), rfl, Mv, _, _, pn, rfl, rfl, eM1, ixN_nat (by rw [List.length_map]; omega), ?_⟩
        rw [← List.map_set]
        exact ⟨_, _, _, rfl, samePut (samePut sz' fDm) fMv, tz.trans ((TupK.put eD).trans (TupK.put eM1)), by rw [upd_ne nDMv]; exact upd_same, by rw [List.length_set]; exact lD, upd_same, by rw [List.length_set]; exact lM⟩
      · rintro σ Hy ⟨y12, ds, ms, rfl, sz', tz, eD, lD, eM, lM⟩
        exact ⟨_, _, _, _, ds, ms, rfl, sz', eD, lD, eM, lM⟩
    rintro σ H7 ⟨y7, y10, y11, y12, ds, ms, rfl, s7, eD7, lD, eM7, lM⟩
    have D7 := D4.same s7
    have x7 := x4.trans (Ext.of s7)
    have eG7 := s7 _ _ eG4
    have eN7 := s7 _ _ eN4
    have hvs7 := (TupK.of s7).dpAll _ _ (to_grps _) hvs
    have oDm := D4.off fDm
    have oMv := D4.off fMv
    -- capacities
    refine ⟨Nat.zero_le _, fun Cp nCp => ?_⟩
    have oCp := D7.off nCp
    have fCp : H Cp = none := D7.nil x7 nCp
    have nDC : Dm ≠ Cp := ne_of_none eD7 nCp
    have nMC : Mv ≠ Cp := ne_of_none eM7 nCp
    refine ⟨.int (n : Nat), rfl, _, rfl, by omega, by omega, for_it (walk_range (lo := 0) (n := ((n : Nat) : Int).toNat))
      (fun j σ Hj => ∃ (y12 y14 : Option V) (tj : Nat) (A : List Int), σ = [some (.ref st), some (.int m), some (.int (n : Nat)), some (.int fir), some (.ref G), some (.ref N), y6, y7, some (.ref Dm), some (.ref Mv), y10, y11, y12, some (.ref Cp), y14, none] ∧ DU Hj st c r tj ∧ tj ≤ t4 + j ∧ Ext st r H7 Hj ∧ Hj Cp = some (.lst (A.map V.int)) ∧ A.length = j ∧ ∀ c ∈ A, 1 ≤ c)
      ⟨y12, none, t4, [], rfl, D7.new nCp, by omega, Ext.of (sameNew nCp), upd_same, rfl, by simp⟩ (fun _ _ _ _ _ => trivial) ?_ ?_⟩
    · rintro j v σ Hx Hj hlt ⟨y12, y14, tj, A, rfl, Dj, htj, xj, eA, lA, bA⟩ ⟨rfl, rfl⟩
      have hj : j < n := by omega
      have eDj := xj _ _ eD7 oDm.1 oDm.2.2
      have eMj := xj _ _ eM7 oMv.1 oMv.2.2
      rw [show (fun i : Nat => V.int (0 + (i : Int))) = fun i : Nat => V.int (i : Int) from funext fun i => by rw [Int.zero_add]]
      refine ⟨.ref Dm, rfl, .int (j : Nat), rfl, Dm, _, j, .int (ds.getD j 0), rfl, rfl, SqL.of eDj, atI_nat (atD (by omega)), .ref Mv, rfl, .int (j : Nat), rfl, Mv, _, j, .int (ms.getD j 0), rfl, rfl, SqL.of eMj, atI_nat (atD (by omega)), _, _, rfl, rfl, ?_⟩
      obtain ⟨so, hso⟩ : ∃ so, ds.getD j 0 - ms.getD j 0 = so := ⟨_, rfl⟩
      dsimp only
      rw [hso]
      refine ⟨.ref Cp, rfl, .inl ⟨rfl, _, SqL.of eA⟩, .int so, rfl, _, _, rfl, .ref st, rfl, st, c, r, tj, 3, rfl, Dj, by omega, by decide, by decide, fun Ha z hz0 hz1 Da Xa => ⟨_, _, rfl, rfl, (show (2 : Nat) ≤ sizeLine by decide), fun Lp nLp => ?_⟩⟩
      have oLp := Da.off nLp
      obtain ⟨v1, hv1, hv1'⟩ : ∃ v1 : Int, (if so > 1 then so else 1) = v1 ∧ 1 ≤ v1 := ⟨_, rfl, by split <;> omega⟩
      dsimp only at nLp ⊢
      rw [hv1]
      have sL := sameNew (o := .lst [.int v1, .int (1 + z)]) nLp
      have xaL := Xa.trans (Ext.of sL)
      have eDa := xaL _ _ eDj oDm.1 oDm.2.2
      refine ⟨.ref Dm, rfl, .int (j : Nat), rfl, Dm, _, j, .int (ds.getD j 0), rfl, rfl, SqL.of eDa, atI_nat (atD (by omega)), rfl, .inr ⟨_, rfl, ?_⟩⟩
      obtain ⟨w1, hat, hw1⟩ : ∃ w1 : Int, atI [V.int v1, V.int (1 + z)] (if decide (V.int (ds.getD j 0) = V.int 0) = true then (1 : Int) else 0) = some (.int w1) ∧ 1 ≤ w1 := by
        by_cases h : decide (V.int (ds.getD j 0) = V.int 0) = true
        · rw [if_pos h]; exact ⟨1 + z, rfl, by omega⟩
        · rw [if_neg h]; exact ⟨v1, rfl, hv1'⟩
      refine ⟨Lp, _, _, _, rfl, rfl, SqL.of upd_same, hat, ?_⟩
      have eAa := xaL _ _ eA oCp.1 oCp.2.2
      refine ⟨Cp, A.map V.int, _, rfl, rfl, eAa, Nat.lt_of_le_of_lt (show (A.map V.int).length ≤ 100 by rw [List.length_map]; omega) (small (by decide)), ?_⟩
      refine ⟨_, _, tj + 1, A ++ [w1], rfl, (Da.same sL).put oCp, by omega, ExtPut (xj.trans xaL) nCp, by rw [upd_same, List.map_append]; rfl, by rw [List.length_append]; simp only [List.length_cons, List.length_nil]; omega, fun x hx => ?_⟩
      rcases List.mem_append.mp hx with h | h
      · exact bA x h
      · have e : x = w1 := by simpa using h
        omega
    rintro σ H8 ⟨y12, y14, t8, A, rfl, D8, ht8, x8, eA, lA, bA⟩
    have lA : A.length = n := by omega
    -- at most 10 ** 12
    refine ⟨.ref Cp, rfl, Cp, rfl, ⟨_, SqL.of eA⟩, fun Cq nCq => lc_it (walk_list (K := K) (a := Cp) (xs := A.map V.int)) (LcP H8 Cq A (fun x => some (.int (if 10 ^ 12 < x then 10 ^ 12 else x)))) (.start nCq) (fun j Hx _ h => SqL.of (h.1 _ _ eA)) ?_ ?_⟩
    · rintro j x Hx Hy hj hL ⟨rfl, hx⟩
      have hx : (A.map V.int)[j]? = some x := hx
      rw [List.getElem?_map] at hx
      obtain ⟨z, hz, rfl⟩ := Option.map_eq_some_iff.mp hx
      have hjl := (List.getElem?_eq_some_iff.mp hz).1
      refine ⟨rfl, .int z, rfl, _, _, rfl, rfl, ⟨by decide, by decide, by decide⟩, _, _, rfl, ?_⟩
      exact hL.yes nCq (Same.refl _) hz rfl (by omega)
    rintro H9 hL
    have eQ := hL.done (by rw [List.length_map]; omega)
    rw [show A.filterMap (fun x => some (V.int (if 10 ^ 12 < x then 10 ^ 12 else x))) = (A.map (fun x => if (10 : Int) ^ 12 < x then 10 ^ 12 else x)).map V.int by rw [fm_map, List.map_map]; rfl] at eQ
    have s9 := hL.1
    have lcs : (A.map (fun x => if (10 : Int) ^ 12 < x then 10 ^ 12 else x)).length = n := by rw [List.length_map]; exact lA
    have bcs : ∀ x ∈ A.map (fun x => if (10 : Int) ^ 12 < x then 10 ^ 12 else x), 1 ≤ x ∧ x ≤ 10 ^ 12 := fun x hx => by
      obtain ⟨y, hy, rfl⟩ := List.mem_map.mp hx
      have := bA y hy
      split <;> omega
    generalize A.map (fun x => if (10 : Int) ^ 12 < x then 10 ^ 12 else x) = cs at eQ lcs bcs
    have x9 := x8.trans (Ext.of s9)
    have D9 := D8.same s9
    have tk9 := D7.tup x9
    refine ⟨.ref st, rfl, .ref Cq, rfl, Cq, _, rfl, .inl ⟨SqL.of eQ, fun Tc nTc => ?_⟩⟩
    have z1 := sameNew (o := .tup (cs.map V.int)) nTc
    have eG9 := x9 _ _ eG7 oG.1 oG.2.2
    have eN9 := x9 _ _ eN7 oN.1 oN.2.2
    refine ⟨.ref G, rfl, G, _, rfl, .inl ⟨SqL.of (z1 _ _ eG9), fun Tg nTg => ⟨(show (2 : Nat) ≤ sizeLine by decide), fun I nI => ?_⟩⟩⟩
    have z23 := (sameNew (o := .tup vs) nTg).trans (sameNew (o := .tup [.ref Tc, .ref Tg]) nI)
    have z3 := z1.trans z23
    refine ⟨.ref N, rfl, st, c, r, I, N, t8, cs, gs, ns, rfl, D9.same z3, by omega, ?_, ⟨by omega, by omega, bcs, by omega, by omega, fun g hg => ?_⟩, z3 _ _ eN9, by omega, fun H' p i' v t' cs' D' ht' X' hp' hI' ok' => ?_⟩
    · exact .tup (SqT.of upd_same) (.cons (dI_sq ((TupK.of z23).sq (SqT.of upd_same))) (.cons (.tup ((TupK.of (sameNew nI)).sq (SqT.of upd_same)) ((tk9.trans (TupK.of z3)).dpAll _ _ (to_grps _) hvs7)) .nil))
    · have := bgs g hg
      rw [lcs]
      exact this
    · exact q H' p i' v t' cs' gs D' (by omega) (((x7.trans x9).trans (Ext.of z3)).trans X') hp' hI' ok'
end
end Pv

namespace Pv
open PySem PySem.Spec PyProof.Rows L2
abbrev sTo : Stmt := topS 26
theorem scTo : FnScope ["_law_instance", "_law_most", "error", "_law_others"] ["_law_instance", "_law_most"] (defScope sTo) := ⟨rfl, rfl, rfl, by decide +kernel, rfl, by decide +kernel, by decide +kernel⟩
section
variable {P : Program} {w : World} {K : PySem.W.Frag} {mg : Str → Option Value} {base : Heap}
def oI : Option Int → V
  | none => .non
  | some k => .int k
def spTo (K : PySem.W.Frag) : Sp := fun vs H Q _ => ∃ (i : Addr) (cs : List Int) (gs : List Gp) (mo : Option Int), vs = [.ref i, oI mo] ∧ Dp K H (.ref i) (dInst cs gs) ∧ AllIn cs gs ∧ 1 ≤ mo.getD 2000 ∧ mo.getD 2000 ≤ 2000 ∧
  (((endB cs gs gs.length).length : Int) ≤ mo.getD 2000 → ∀ H' p us, Same H H' → H' p = some (.tup us) → DpAll K H' us ((endB cs gs gs.length).map fun b => dAsg b.1) → Q (.ref p) H') ∧
  (mo.getD 2000 < ((endB cs gs gs.length).length : Int) → ∀ H' p, Same H H' → H' p = some (.lst [.int (mo.getD 2000)]) → H p = none → p ≠ sysModules → Q (.ref p) H')
theorem kb_Aa {f : Addr} {fd : FuncData} (F : Fun K "all_assignments" "all_assignments" sAa f fd) : KBn K fd ["instance", "limit"] 1 ["limit"] (fun us ws => us ++ ws) (fun vs zs => vs ++ zs) := kb_one F fun _ _ _ _ _ _ _ _ => rfl
def tsTo (K : PySem.W.Frag) (cNU cTG cBV cTM : Addr) (a : Addr) (cls : Value) (d : Option Addr) : TS :=
  tSeq (tAsg (tCB (rIsX K a cls d) (tCons (tVar 2) (tCons (tTup (tCons (tC (.ref cNU)) (tCons (tC (.ref cTG)) (tCons (tC (.ref cBV)) tNil)))) tNil))) (gName 3))
    (tRet (tIf (tAnd (tB (tCB (rIsX K a cls d) (tCons (tVar 2) (tCons (tC (.ref cTM)) tNil)))) (tNot (tB (tVar 3)))) (tLstS (tCons (tXf a cls d cTM "limit" (tVar 2)) tNil)) (tLst (tCons (tC (.str "other")) tNil))))
set_option maxHeartbeats 8000000 in
theorem ok_To {f fAa cVE cNU cTG cBV cTM fiTM : Addr} {fd fdAa : FuncData} {g1 : List Value → List Value → List Value} (F : Fun K "_law_told" "_law_told" sTo f fd)
    (FAa : Fun K "all_assignments" "all_assignments" sAa fAa fdAa) (bD : KBn K fdAa ["instance", "limit"] 1 [] g1 (fun vs _ => vs ++ [.int 2000])) (gAa : mg "all_assignments" = some (.ref fAa)) (GAa : FnOk P w K mg base (L2.CX P w) 4 fAa fdAa ["instance", "limit"] (spAa K cTM))
    (gVE : mg "VoteError" = some (.ref cVE)) (gNU : mg "NoUnbeaten" = some (.ref cNU)) (gTG : mg "TooGreat" = some (.ref cTG)) (gBV : mg "BadVector" = some (.ref cBV)) (gTM : mg "TooMany" = some (.ref cTM)) (ITM : IsC K cTM) (XTM : XF K cTM fiTM "limit")
    (x1 : PySem.W.exmOne K (.ref cTM) (.ref cVE) = some true) (x2 : PySem.W.kitOne K (.ref cTM) (.ref cTM) = some true) (x3 : PySem.W.kitAny K (.ref cTM) [.ref cNU, .ref cTG, .ref cBV] = some false)
    (m_isinstance : mg "isinstance" = none) :
    FnOk P w K mg base CX0 5 f fd ["_law_instance", "_law_most"] (spTo K) := by
  refine F.ok scTo (fun vs H Q E h => ?_) (fun cdv A outer s H vs Q E hr h => ?_)
  · obtain ⟨i, cs, gs, mo, rfl, _⟩ := h; rfl
  · obtain ⟨i, cs, gs, mo, rfl, hI, ok, hl1, hl2, q1, q2⟩ := h
    refine ⟨_, pss_one (ps_try_as (i := 2) (tb := fun W => tSeq (tIfS (tB (tIsN (tVar 1))) (tRet (tCallNS 1 0 (spAa K cTM) (fun vs _ => vs ++ [.int 2000]) (WE W) (tCons (tVar 0) tNil) tNil)) tNext) (tRet (tCallNS 1 1 (spAa K cTM) (fun vs zs => vs ++ zs) (WE W) (tCons (tVar 0) tNil) (tCons (tVar 1) tNil)))) (ts := tsTo K cNU cTG cBV cTM) (Wout := fun _ _ _ _ => False) rfl rfl scTo.nd rfl rfl ⟨rfl, by decide, Or.inl gVE⟩ takes0
        (fun W pn xe tk _ => by
          refine pss_cons (ps_if (pt_cmp (pc_isN (pv 1))) (pss_one (ps_ret ?_)) pss_nil) (pss_one (ps_ret ?_))
          · exact pe_callNS (x := "all_assignments") GAa (hr.mono (by omega)) (by rfl) gAa FAa.kp bD (fun σ => passAt tk σ) (pa_cons (pv 0) pa_nil) pk_nil
          · exact pe_callNS (x := "all_assignments") GAa (hr.mono (by omega)) (by rfl) gAa FAa.kp (kb_Aa FAa) (fun σ => passAt tk σ) (pa_cons (pv 0) pa_nil) (pk_cons (pv 1) pk_nil))
        (fun a oe cls d pn hz hf => by
          refine pss_cons (ps_set (i := 3) scTo.nd rfl (.inl rfl) (pe_callB (call_isX hz hf) (by rfl) m_isinstance (by decide +kernel) (pa_cons (pv 2) (pa_cons (pe_tup (pa_cons (pe_glob (v := .ref cNU) (by rfl) gNU rfl) (pa_cons (pe_glob (v := .ref cTG) (by rfl) gTG rfl) (pa_cons (pe_glob (v := .ref cBV) (by rfl) gBV rfl) pa_nil)))) pa_nil))))
            (pss_one (ps_ret (pe_ifExp (PW.pt (pw_and (pt_val (pe_callB (call_isX hz hf) (by rfl) m_isinstance (by decide +kernel) (pa_cons (pv 2) (pa_cons (pe_glob (v := .ref cTM) (by rfl) gTM rfl) pa_nil)))) (pw_and1 (pt_not (pt_val (pv 3)))))) (pe_lstS (pa_cons (pe_xf XTM.rd XTM.no hz hf (pv 2)) pa_nil)) (pe_lst (pa_cons pe_str pa_nil))))))), ?_⟩
    have exc : ∀ H' dx, Same H H' → H' dx = none → mo.getD 2000 < ((endB cs gs gs.length).length : Int) → ∀ (D : Ends), D.rt = Q → wAs K (.ref cVE) 2 (tsTo K cNU cTG cBV cTM) (fun _ _ _ _ => False) D (.ref cTM) (some dx) [some (.ref i), some (oI mo), none, none] (upd H' dx (.xd [("limit", .int (mo.getD 2000))])) := by
      intro H' dx s' nd hgt D hD
      refine ⟨true, x1, fun _ e ne => ?_, fun z => nomatch z⟩
      have sx := s'.trans (sameNew (o := .xd [("limit", .int (mo.getD 2000))]) nd)
      refine ⟨.ref e, rfl, (show (3 : Nat) ≤ sizeLine by decide), fun T nT => ?_⟩
      have sT := sx.trans (sameNew (o := .tup [.ref cNU, .ref cTG, .ref cBV]) nT)
      refine ⟨cTM, .ref T, false, rfl, ITM, (fun _ z => by cases z; exact ⟨_, upNew nT upd_same⟩), rfl, .inr ⟨T, _, _, rfl, upd_same, .cons (.own _) (.cons (.own _) (.cons (.own _) (.nil))), x3⟩, ?_⟩
      refine ⟨.ref e, rfl, cTM, .ref cTM, true, rfl, ITM, (fun _ z => by cases z; exact ⟨_, upNew nT upd_same⟩), rfl, .inl ⟨_, .own _, x2⟩, _, rfl, iteT ?_⟩
      refine ⟨_, rfl, _, rfl, iteT ?_⟩
      refine ⟨.ref e, rfl, rfl, rfl, dx, _, _, rfl, upNew nT upd_same, rfl, (show (1 : Nat) ≤ sizeLine by decide), fun p np mp => ?_⟩
      show D.rt (.ref p) _
      rw [hD]
      exact q2 hgt _ p (sT.trans (sameNew np)) upd_same (freeZ sT np) mp
    cases mo with
    | none =>
      refine ⟨.non, rfl, _, rfl, ?_⟩
      rw [decide_eq_true rfl]
      refine iteT ⟨.ref i, rfl, rfl, rfl, i, cs, gs, 2000, rfl, hI, ok, by decide, by decide, fun hle H' p us s' ep hus => q1 hle H' p us s' ep hus, fun hgt H' dx s' nd => exc H' dx s' nd hgt _ rfl⟩
    | some k =>
      refine ⟨.int k, rfl, _, rfl, ?_⟩
      rw [decide_eq_false (fun y => by cases y)]
      refine iteF ⟨.ref i, rfl, .int k, rfl, rfl, rfl, i, cs, gs, k, rfl, hI, ok, hl1, hl2, fun hle H' p us s' ep hus => q1 hle H' p us s' ep hus, fun hgt H' dx s' nd => exc H' dx s' nd hgt _ rfl⟩
end
end Pv

namespace Pv
open PySem PySem.Spec PyProof.Rows L2
abbrev sSm : Stmt := topS 15
theorem scSm : FnScope ["_law_found", "_law_due"] ["_law_found", "_law_due"] (defScope sSm) := ⟨rfl, rfl, rfl, by decide +kernel, rfl, by decide +kernel, by decide +kernel⟩
theorem rowsL_le : ∀ {s c : Nat} {r : List Int}, r ∈ rowsL s c → ∀ x ∈ r, x ≤ c
  | 0, c, r, h => by
    have e : r = [(c : Int)] := by simpa [rowsL] using h
    subst e
    intro x hx
    have e : x = (c : Int) := by simpa using hx
    omega
  | s + 1, c, r, h => by
    unfold rowsL at h
    obtain ⟨k, hk, h⟩ := List.mem_flatMap.mp h
    obtain ⟨r', h', rfl⟩ := List.mem_map.mp h
    have hk := List.mem_range.mp hk
    intro x hx
    rcases List.mem_cons.mp hx with rfl | hx
    · omega
    · have := rowsL_le h' x hx
      omega
theorem allN_small {cs : List Int} {gs : List Gp} (h : ∀ g ∈ gs, g.1.length ≤ 3 ∧ g.2 ≤ 3) : ∀ i, ∀ rs ∈ allN cs gs i, ∀ r ∈ rs, r.length ≤ 4 ∧ ∀ x ∈ r, x.natAbs ≤ 3
  | 0, rs, hr => by
    have e : rs = [] := by simpa [allN] using hr
    subst e; simp
  | i + 1, rs, hr => by
    unfold allN at hr
    cases e : gs[i]? with
    | none => rw [e] at hr; exact allN_small h i rs hr
    | some g =>
      rw [e] at hr
      obtain ⟨hr, _⟩ := List.mem_filter.mp hr
      obtain ⟨a, ha, hr⟩ := List.mem_flatMap.mp hr
      obtain ⟨r0, h0, rfl⟩ := List.mem_map.mp hr
      have hg := h g (List.mem_of_getElem? e)
      intro r hm
      rcases List.mem_append.mp hm with hm | hm
      · exact allN_small h i a ha r hm
      · have e : r = r0 := by simpa using hm
        subst e
        refine ⟨by rw [rowsL_row h0]; omega, fun x hx => ?_⟩
        have h1 := rowsL_pos h0 x hx
        have h2 := rowsL_le h0 x hx
        omega
theorem fit_few {rows : List (List Int)} (h : ∀ r ∈ rows, r.length ≤ 4 ∧ ∀ x ∈ r, x.natAbs ≤ 3) (hr : rows.length ≤ 3) : Fit 3 2 600 (dAsg rows) := by
  unfold dAsg
  refine Fit.tup ?_ (by decide) ?_
  · intro d hd
    obtain ⟨r, hm, rfl⟩ := List.mem_map.mp hd
    have f := fit_dI (h r hm).2
    exact ⟨f.ok, by have := f.dp; omega⟩
  · have := wtAll_le (W := 171) (ds := rows.map dI) fun d hd => by
      obtain ⟨r, hm, rfl⟩ := List.mem_map.mp hd
      have f := (fit_dI (h r hm).2).wt
      have := (h r hm).1
      omega
    rw [List.length_map] at this
    omega
theorem fit_all {L : List (List (List Int))} (h : ∀ rows ∈ L, (∀ r ∈ rows, r.length ≤ 4 ∧ ∀ x ∈ r, x.natAbs ≤ 3) ∧ rows.length ≤ 3) (hl : L.length ≤ 2000) :
    (PyData.tuple (L.map dAsg)).showable = true ∧ (PyData.tuple (L.map dAsg)).depth ≤ 60 ∧ (PyData.tuple (L.map dAsg)).shown.length ≤ sizeLine := by
  have f : Fit 3 3 1300000 (.tuple (L.map dAsg)) := by
    refine Fit.tup ?_ (by decide) ?_
    · intro d hd
      obtain ⟨r, hm, rfl⟩ := List.mem_map.mp hd
      have f := fit_few (h r hm).1 (h r hm).2
      exact ⟨f.ok, by have := f.dp; omega⟩
    · have := wtAll_le (W := 600) (ds := L.map dAsg) fun d hd => by
        obtain ⟨r, hm, rfl⟩ := List.mem_map.mp hd
        exact (fit_few (h r hm).1 (h r hm).2).wt
      rw [List.length_map] at this
      omega
  obtain ⟨s1, s2⟩ := fit_ok (by decide) f.ok
  refine ⟨s1, Nat.le_trans f.dp (by omega), Nat.le_trans s2 (Nat.le_trans f.wt ?_)⟩
  rw [sizeLine_eq]; omega
theorem fit_one {k : Int} (h : k.natAbs ≤ 2000) : (PyData.list [.int k]).showable = true ∧ (PyData.list [.int k]).depth ≤ 60 ∧ (PyData.list [.int k]).shown.length ≤ sizeLine := by
  have f : Fit 2000 2 50 (.list [.int k]) := by
    refine Fit.lst ?_ (by decide) (by simp [wtAll, wt])
    intro d hd
    have e : d = .int k := by simpa using hd
    subst e
    exact ⟨by simpa only [fit] using h, by simp [PyData.depth]⟩
  obtain ⟨s1, s2⟩ := fit_ok (by decide) f.ok
  refine ⟨s1, Nat.le_trans f.dp (by omega), Nat.le_trans s2 (Nat.le_trans f.wt ?_)⟩
  rw [sizeLine_eq]; omega
theorem fit_in {cs : List Int} {gs : List Gp} (ok : InsOk cs gs) : (dInst cs gs).showable = true ∧ (dInst cs gs).depth ≤ 60 ∧ (dInst cs gs).shown.length ≤ sizeLine := by
  have f : Fit (10 ^ 12) 5 20000 (dInst cs gs) := fit_dInst ⟨by have := ok.c6; omega, fun i hi => by have := ok.cb i hi; omega⟩ (by have := ok.g10; omega) fun g hg => by
    obtain ⟨h1, h2, h3, h4⟩ := ok.gp g hg
    have := ok.c6
    exact ⟨by omega, fun i hi => by have := h2 i hi; omega, by omega⟩
  obtain ⟨s1, s2⟩ := fit_ok (by decide) f.ok
  refine ⟨s1, Nat.le_trans f.dp (by omega), Nat.le_trans s2 (Nat.le_trans f.wt ?_)⟩
  rw [sizeLine_eq]; omega
theorem InsOk.all {cs : List Int} {gs : List Gp} (ok : InsOk cs gs) : AllIn cs gs := ⟨fun x hx => by have := ok.cb x hx; omega, ok.c6, ok.g10, fun g hg => by
  obtain ⟨h1, h2, h3, h4⟩ := ok.gp g hg
  exact ⟨h1, h2, by omega, h4⟩⟩
theorem far_many {cs : List Int} {gs : List Gp} (ok : AllIn cs gs) {p : Int} {ps : List Int} {cnt few : Int} (hg : gs[0]? = some (p :: ps, cnt)) (h1 : few ≤ cnt) (h2 : few ≤ cs.getD p.toNat 0) (h0 : 1 ≤ few) : few < ((endB cs gs gs.length).length : Int) := by
  have hl := (List.getElem?_eq_some_iff.mp hg).1
  have hm := endB_mono ok (show 1 ≤ gs.length by omega) (Nat.le_refl _)
  obtain ⟨g1, g2, g3, g4⟩ := ok.g _ (List.mem_of_getElem? hg)
  dsimp only at g1 g2 g3 g4
  have hin := opts_in (n := cs.length) (g := (p :: ps, cnt)) g2
  have b0 : BK cs.length 0 (([], cs) : Bp) := ⟨rfl, rfl, ok.c⟩
  have k0 : ∀ x ∈ [begPt ([], cs)], PK cs.length cnt 0 0 x := fun x hx => by
    have e : x = begPt ([], cs) := by simpa using hx
    subst e
    exact b0.beg ⟨g3, g4⟩
  have k1 := contL_ok k0 (post := some p.toNat) (hin _ (by simp [optsL]))
  obtain ⟨_, up⟩ := contAll_ok (ps := ps.map (fun q => some q.toNat) ++ [none]) (fun q hq => hin q (by simp [optsL] at hq ⊢; rcases hq with h | h; exact .inr (.inl h); exact .inr (.inr h))) k1
  have e1 : (endB cs gs 1).length = (contAll cnt (contL (some p.toNat) cnt [begPt ([], cs)]) (ps.map (fun q => some q.toNat) ++ [none])).length := by
    rw [endB, hg]
    show ((contAll cnt [begPt ([], cs)] (optsL (p :: ps, cnt))).map closeP).length = _
    rw [List.length_map]; rfl
  have e2 : (contL (some p.toNat) cnt [begPt ([], cs)]).length = (min (cnt - ([] : List Int).sum) (cs.getD p.toNat 0) + 1).toNat := by
    unfold contL
    rw [List.flatMap_cons, List.flatMap_nil, List.append_nil, List.length_map]
    show (upTo _).length = _
    rw [upTo_len]; rfl
  rw [List.sum_nil] at e2
  omega
section
variable {P : Program} {w : World} {K : PySem.W.Frag} {mg : Str → Option Value} {base : Heap}
def spSm (K : PySem.W.Frag) : Sp := fun vs H Q _ => ∃ (v1 v2 : V) (d : PyData) (st r : Addr), vs = [v1, v2] ∧ Dq K st r H v1 d ∧ Dq K st r H v2 d ∧ d.showable = true ∧ d.depth ≤ 60 ∧ d.shown.length ≤ sizeLine ∧ Q (.bl true) H
theorem ok_Sm {f : Addr} {fd : FuncData} (F : Fun K "_law_same" "_law_same" sSm f fd)
    (m_repr : mg "repr" = none) :
    FnG P w K mg base 1 f fd ["_law_found", "_law_due"] (spSm K) := by
  refine okG F scSm (fun vs H Q E h => ?_) (fun cdv A outer s H vs Q E hgd hr h => ?_)
  · obtain ⟨v1, v2, d, st, r, rfl, _⟩ := h; rfl
  · obtain ⟨v1, v2, d, st, r, rfl, h1, h2, s1, s2, s3, q⟩ := h
    refine ⟨_, pss_one (ps_ret (pe_cmpR op_eq (pe_callB (call_reprA hgd (hu70 hr)) (by rfl) m_repr (by decide +kernel) (pa_cons (pv 0) pa_nil)) (pe_callB (call_reprA hgd (hu70 hr)) (by rfl) m_repr (by decide +kernel) (pa_cons (pv 1) pa_nil)) (nomark _))), ?_⟩
    refine ⟨v1, rfl, v1, d, st, r, rfl, h1, s1, s2, s3, v2, rfl, v2, d, st, r, rfl, h2, s1, s2, s3, rfl, ?_⟩
    rw [decide_eq_true rfl]
    exact q
end
end Pv

namespace Pv
open PySem PySem.Spec PyProof.Rows L2
abbrev sLaw : Stmt := topS 27
theorem scLaw : FnScope ["_law_script", "_law_deck_here", "_law_turn", "_law_instance", "_law_kept", "_law_due", "_law_sizes", "_law_most", "_law_allowed", "_law_wanted", "_law_far", "_law_few", "_law_order", "_law_count", "_law_one"] ["_law_script"] (defScope sLaw) := ⟨rfl, rfl, rfl, by decide +kernel, rfl, by decide +kernel, by decide +kernel⟩
section
variable {P : Program} {w : World} {K : PySem.W.Frag} {mg : Str → Option Value} {base : Heap}
theorem iteF' {c : Bool} {A B : Prop} (hc : c = false) (h : B) : if c = true then A else B := by rw [if_neg (by rw [hc]; decide)]; exact h
def spLaw (K : PySem.W.Frag) : Sp := fun vs H Q _ => ∃ (a : Addr) (ns : List Int), vs = [.ref a] ∧ SqL K H a (ns.map V.int) ∧ ns.length ≤ 63 ∧ ∀ H', Q (.bl true) H'
set_option maxHeartbeats 8000000 in
theorem ok_Law {f fSt fSl fAl fDr fTo fSm fPl : Addr} {fd fdSt fdSl fdAl fdDr fdTo fdSm fdPl : FuncData} (F : Fun K "law" "law" sLaw f fd)
    (FSt : Fun K "_law_deck" "_law_deck" sSt fSt fdSt) (bSt : Binds K fdSt ["_law_script"] []) (gSt : mg "_law_deck" = some (.ref fSt)) (GSt : FnOk P w K mg base CX0 1 fSt fdSt ["_law_script"] (spStart K))
    (FSl : Fun K "_law_small" "_law_small" sSl fSl fdSl) (bSl : Binds K fdSl ["_law_deck_here"] []) (gSl : mg "_law_small" = some (.ref fSl)) (GSl : FnOk P w K mg base CX0 3 fSl fdSl ["_law_deck_here"] (spSl K))
    (FAl : Fun K "_law_all" "_law_all" sAl fAl fdAl) (bAl : Binds K fdAl ["_law_instance"] []) (gAl : mg "_law_all" = some (.ref fAl)) (GAl : FnOk P w K mg base CX0 6 fAl fdAl ["_law_instance"] (spAl K))
    (FDr : Fun K "_law_draw" "_law_draw" sDr fDr fdDr) (bDr : Binds K fdDr ["_law_deck_here", "_law_many"] []) (gDr : mg "_law_draw" = some (.ref fDr)) (GDr : FnOk P w K mg base CX0 1 fDr fdDr ["_law_deck_here", "_law_many"] spDraw)
    (FTo : Fun K "_law_told" "_law_told" sTo fTo fdTo) (bTo : Binds K fdTo ["_law_instance", "_law_most"] []) (gTo : mg "_law_told" = some (.ref fTo)) (GTo : FnOk P w K mg base CX0 5 fTo fdTo ["_law_instance", "_law_most"] (spTo K))
    (FSm : Fun K "_law_same" "_law_same" sSm fSm fdSm) (bSm : Binds K fdSm ["_law_found", "_law_due"] []) (gSm : mg "_law_same" = some (.ref fSm)) (GSm : FnG P w K mg base  1 fSm fdSm ["_law_found", "_law_due"] (spSm K))
    (FPl : Fun K "_law_planned" "_law_planned" sPl fPl fdPl) (bPl : Binds K fdPl ["_law_deck_here", "_law_most"] []) (gPl : mg "_law_planned" = some (.ref fPl)) (GPl : FnOk P w K mg base CX0 5 fPl fdPl ["_law_deck_here", "_law_most"] (spPl K))
    (m_range : mg "range" = none) (m_repr : mg "repr" = none) (m_len : mg "len" = none) (m_tuple : mg "tuple" = none) (m_min : mg "min" = none) :
    FnG P w K mg base 9 f fd ["_law_script"] (spLaw K) := by
  refine okG F scLaw (fun vs H Q E h => ?_) (fun cdv A outer s H vs Q E hgd hr h => ?_)
  · obtain ⟨a, ns, rfl, _⟩ := h; rfl
  · obtain ⟨a, ns, rfl, hS, hn, q⟩ := h
    have hu64 : (A.deeper (envOfC "law" (defScope sLaw) s.heap.objs.size f cdv)).units + 64 < cLine := by have := hr.un; omega
    have hu0 : (A.deeper (envOfC "law" (defScope sLaw) s.heap.objs.size f cdv)).units < cLine := by omega
    refine ⟨_, pss_cons (ps_set (i := 1) scLaw.nd rfl (.inl rfl) (pe_call GSt (hr.mono (by omega)) (by rfl) gSt FSt.kp bSt .nil pass0 (pa_cons (pv 0) pa_nil)))
      (pss_cons (ps_for PassesOwn.never rfl (pi_range1 (by rfl) m_range (pa_cons (pe_int) pa_nil)) (pg_name (i := 2) scLaw.nd rfl (.inl rfl))
        (pss_cons (ps_set (i := 3) scLaw.nd rfl (.inl rfl) (pe_call GSl (hr.mono (by omega)) (by rfl) gSl FSl.kp bSl .nil pass0 (pa_cons (pv 1) pa_nil)))
        (pss_cons (ps_set (i := 4) scLaw.nd rfl (.inl rfl) (pe_callB (call_reprA hgd (hu70 hr)) (by rfl) m_repr (by decide +kernel) (pa_cons (pv 3) pa_nil)))
        (pss_cons (ps_set (i := 5) scLaw.nd rfl (.inl rfl) (pe_call GAl (hr.mono (by omega)) (by rfl) gAl FAl.kp bAl .nil pass0 (pa_cons (pv 3) pa_nil)))
        (pss_cons (ps_set (i := 6) scLaw.nd rfl (.inl rfl) (pe_lst (pa_cons (pe_non) (pa_cons (pe_callB call_lenQ (by rfl) m_len PySem.boot_len (pa_cons (pv 5) pa_nil)) (pa_cons (pe_op op_sub (pe_callB call_lenQ (by rfl) m_len PySem.boot_len (pa_cons (pv 5) pa_nil)) (pe_int)) (pa_cons (pe_op op_add (pe_callB call_lenQ (by rfl) m_len PySem.boot_len (pa_cons (pv 5) pa_nil)) (pe_int)) (pa_cons (pe_int) (pa_cons (pe_int) (pa_cons (pe_op op_add (pe_int) (pe_call GDr (hr.mono (by omega)) (by rfl) gDr FDr.kp bDr .nil pass0 (pa_cons (pv 1) (pa_cons (pe_callB call_lenQ (by rfl) m_len PySem.boot_len (pa_cons (pv 5) pa_nil)) pa_nil)))) pa_nil)))))))))
        (pss_cons (ps_for PassesOwn.never rfl (pi_list (pe_lc (own := [("_law_one", 14)]) (g := gName 14) (tt := tOr (tB (tIsN (tVar 14))) (tB (tChain (rI0 fun i j => .bl (decide (i ≤ j))) (rI0 fun i j => .bl (decide (i ≤ j))) (tC (.int 1)) (tVar 14) (tC (.int 2000))))) (te := tVar 14) rfl scLaw.nd (pi_list (pv 6)) (blkOk_by (N := ["_law_script", "_law_deck_here", "_law_turn", "_law_instance", "_law_kept", "_law_due", "_law_sizes", "_law_most", "_law_allowed", "_law_wanted", "_law_far", "_law_few", "_law_order", "_law_count", "_law_one"]) (sc := defScope sLaw) (by decide +kernel)) (fun _ _ _ _ _ => pg_name (i := 14) scLaw.nd rfl (.inl rfl)) (fun _ _ _ _ _ => pts_one (PW.pt (pw_or (pt_cmp (pc_isN (pv 14))) (pw_or1 (pt_chain op_le op_le (pe_int) (pv 14) (pe_int)))))) (fun _ _ _ _ _ => pv 14))) (pg_name (i := 7) scLaw.nd rfl (.inl rfl))
          (pss_cons (ps_set (i := 8) scLaw.nd rfl (.inl rfl) (pe_ifExp (pt_cmp (pc_isN (pv 7))) (pe_int) (pv 7)))
          (pss_cons (ps_set (i := 9) scLaw.nd rfl (.inl rfl) (pe_ifExp (pt_cmpR op_le (pe_callB call_lenQ (by rfl) m_len PySem.boot_len (pa_cons (pv 5) pa_nil)) (pv 8) (nomark _)) (pe_callTy call_tupQ (by rfl) m_tuple (by decide +kernel) (pa_cons (pv 5) pa_nil)) (pe_lstS (pa_cons (pv 8) pa_nil))))
          (pss_one (ps_if (pt_not (pt_val (pe_callG GSm hgd (hr.mono (by omega)) (by rfl) gSm FSm.kp bSm (pa_cons (pe_call GTo (hr.mono (by omega)) (by rfl) gTo FTo.kp bTo .nil pass0 (pa_cons (pv 3) (pa_cons (pv 7) pa_nil))) (pa_cons (pv 9) pa_nil)))))
            (pss_one (ps_ret (pe_bl))) pss_nil)))))
        (pss_one (ps_if (pt_cmpR op_ne (pe_callB (call_reprA hgd (hu70 hr)) (by rfl) m_repr (by decide +kernel) (pa_cons (pv 3) pa_nil)) (pv 4) (nomark _))
          (pss_one (ps_ret (pe_bl))) pss_nil))))))))
      (pss_cons (ps_set (i := 10) scLaw.nd rfl (.inl rfl) (pe_ix ix_list (pe_call GPl (hr.mono (by omega)) (by rfl) gPl FPl.kp bPl .nil pass0 (pa_cons (pv 1) (pa_cons (pe_op op_pow (pe_int) (pe_int)) pa_nil))) (pe_int) (fun _ _ => rfl)))
      (pss_cons (ps_set (i := 11) scLaw.nd rfl (.inl rfl) (pe_op op_add (pe_int) (pe_call GDr (hr.mono (by omega)) (by rfl) gDr FDr.kp bDr .nil pass0 (pa_cons (pv 1) (pa_cons (pe_int) pa_nil)))))
      (pss_cons (ps_asg (pe_ix ix_tup (pe_ix ix_tup (pv 10) (pe_int) (fun _ _ => rfl)) (pe_int) (fun _ _ => rfl)) (pg_tup rfl (pgs_cons (pg_name (i := 12) scLaw.nd rfl (.inl rfl)) (pgs_cons (pg_name (i := 13) scLaw.nd rfl (.inl rfl)) pgs_nil))))
      (pss_cons (ps_if (PW.pt (pw_and (pt_cmpR (op_neNilT hu0) (pv 12) (pe_tup (pa_nil)) (nomark _)) (pw_and1 (pt_cmpR op_ge (pe_callB (call_min2 rfl) (by rfl) m_min (by decide +kernel) (pa_cons (pv 13) (pa_cons (pe_ix ix_tup (pe_ix ix_tup (pv 10) (pe_int) (fun _ _ => rfl)) (pe_ix ix_tup (pv 12) (pe_int) (fun _ _ => rfl)) (fun _ _ => rfl)) pa_nil))) (pv 11) (nomark _)))))
        (pss_one (ps_ret (pe_callG GSm hgd (hr.mono (by omega)) (by rfl) gSm FSm.kp bSm (pa_cons (pe_call GTo (hr.mono (by omega)) (by rfl) gTo FTo.kp bTo .nil pass0 (pa_cons (pv 10) (pa_cons (pv 11) pa_nil))) (pa_cons (pe_lstS (pa_cons (pv 11) pa_nil)) pa_nil))))) pss_nil)
      (pss_one (ps_ret (pe_bl)))))))), ?_⟩
    have two : (2 : Nat) ≤ sizeLine := by decide
    refine ⟨.ref a, rfl, a, ns, rfl, hS, hn, fun H1 st c r s1 D1 => ?_⟩
    refine ⟨3, rfl, by decide, by decide, for_it (walk_range (lo := 0) (n := (3 : Int).toNat))
      (fun i σ H2 => ∃ (y2 y3 y4 y5 y6 y7 y8 y9 : Option V) (t2 : Nat), σ = [some (.ref a), some (.ref st), y2, y3, y4, y5, y6, y7, y8, y9, none, none, none, none, none] ∧ DU H2 st c r t2 ∧ t2 ≤ 200 * i)
      ⟨none, none, none, none, none, none, none, none, 0, rfl, D1, by omega⟩ (fun _ _ _ _ _ => trivial) ?_ ?_⟩
    · rintro i v σ Hz Hi hlt ⟨y2, y3, y4, y5, y6, y7, y8, y9, t2, rfl, D2, ht2⟩ ⟨rfl, rfl⟩
      have hi3 : i < 3 := hlt
      refine ⟨.ref st, rfl, st, c, r, t2, rfl, D2, by omega, fun H3 I t3 cs gs D3 ht3 X3 hI ok hc3 hg3 hcb hgb hnd => ?_⟩
      obtain ⟨fi1, fi2, fi3⟩ := fit_in ok
      refine ⟨.ref I, rfl, .ref I, dInst cs gs, st, r, rfl, Dq.of_dp (to_dInst _ _) hI, fi1, fi2, fi3, ?_⟩
      refine ⟨.ref I, rfl, I, cs, gs, rfl, hI, ok, hc3, hg3, hgb, fun H4 Du us s4 nDu eDu hus => ?_⟩
      have eAll := endB_asgs (cs := cs) (gs := gs) (fun x hx => by have := ok.cb x hx; omega) (fun g hg => ⟨(ok.gp g hg).2.1, by have := (ok.gp g hg).2.2.1; omega⟩)
      have lAll : (endB cs gs gs.length).length = (allN cs gs gs.length).length := by
        have := congrArg List.length eAll
        rwa [List.length_map, List.length_map] at this
      have lus := DpAll.len hus
      rw [List.length_map] at lus
      have npos := endB_mono ok.all (Nat.zero_le gs.length) (Nat.le_refl _)
      rw [show (endB cs gs 0).length = 1 from rfl, lAll] at npos
      have n8 := allN_len (cs := cs) (gs := gs) hgb gs.length hg3
      have h8000 : 20 ^ gs.length ≤ 8000 := by
        have : 20 ^ gs.length ≤ 20 ^ 3 := Nat.pow_le_pow_right (by decide) hg3
        exact this
      have sml := allN_small (cs := cs) hgb gs.length
      have srow := allN_rows2 cs gs gs.length (Nat.le_refl _)
      obtain ⟨N, hN⟩ : ∃ N, (allN cs gs gs.length).length = N := ⟨_, rfl⟩
      rw [hN] at npos n8 lus lAll
      have D4 := D3.same s4
      have hI4 := (TupK.of s4).dp _ _ (to_dInst _ _) hI
      -- sizes
      refine ⟨.ref Du, rfl, Du, us, rfl, .inl (SqL.of eDu), .ref Du, rfl, Du, us, rfl, .inl (SqL.of eDu), _, _, rfl, rfl, .ref Du, rfl, Du, us, rfl, .inl (SqL.of eDu), _, _, rfl, rfl, .ref st, rfl, .ref Du, rfl, Du, us, rfl, .inl (SqL.of eDu), st, c, r, t3, _, rfl, D4, by omega, by omega, by omega, fun H5 z hz0 hz1 D5 X5 => ⟨_, _, rfl, rfl, (show (7 : Nat) ≤ sizeLine by decide), fun Zs nZs => ?_⟩⟩
      have oZs := D5.off nZs
      refine ⟨.ref Zs, rfl, Zs, rfl, ⟨_, SqL.of upd_same⟩, fun Lz nLz => lc_it (walk_list (K := K) (a := Zs) (xs := [.non, .int (us.length : Nat), .int ((us.length : Nat) - 1), .int ((us.length : Nat) + 1), .int 1, .int 2000, .int (1 + z)]))
        (fun m Hm => Same H5 Hm ∧ Hm Zs = some (.lst [.non, .int (us.length : Nat), .int ((us.length : Nat) - 1), .int ((us.length : Nat) + 1), .int 1, .int 2000, .int (1 + z)]) ∧ ∃ ws : List V, Hm Lz = some (.lst ws) ∧ ws.length ≤ m ∧ ∀ v ∈ ws, ∃ mo : Option Int, v = oI mo ∧ 1 ≤ mo.getD 2000 ∧ mo.getD 2000 ≤ 2000)
        ⟨(sameNew nZs).trans (sameNew nLz), upNew nLz upd_same, [], upd_same, Nat.le_refl _, by simp⟩ (fun m Hm _ h => SqL.of h.2.1) ?_ ?_⟩
      · rintro m x Hm Hn hm ⟨sm, eZ, ws, eW, lW, bW⟩ ⟨rfl, hx⟩
        have hm7 : m < 7 := hm
        have fLz : H5 Lz = none := freeZ (sameNew nZs) nLz
        have nZL : Zs ≠ Lz := ne_of_none upd_same nLz
        have hmem := List.mem_of_getElem? hx
        obtain ⟨mo, rfl⟩ : ∃ mo, x = oI mo := by
          simp only [List.mem_cons, List.not_mem_nil, or_false] at hmem
          rcases hmem with h | h | h | h | h | h | h
          · exact ⟨none, h⟩
          all_goals exact ⟨some _, h⟩
        have yes : 1 ≤ mo.getD 2000 → mo.getD 2000 ≤ 2000 → ∃ acc, Hn Lz = some (.lst acc) ∧ acc.length < sizeLine ∧ (Same H5 (upd Hn Lz (.lst (acc ++ [oI mo]))) ∧ (upd Hn Lz (.lst (acc ++ [oI mo]))) Zs = some (.lst [.non, .int (us.length : Nat), .int ((us.length : Nat) - 1), .int ((us.length : Nat) + 1), .int 1, .int 2000, .int (1 + z)]) ∧ ∃ ws : List V, (upd Hn Lz (.lst (acc ++ [oI mo]))) Lz = some (.lst ws) ∧ ws.length ≤ m + 1 ∧ ∀ v ∈ ws, ∃ mo : Option Int, v = oI mo ∧ 1 ≤ mo.getD 2000 ∧ mo.getD 2000 ≤ 2000) := fun h1 h2 =>
          ⟨ws, eW, Nat.lt_of_le_of_lt (show ws.length ≤ 100 by omega) (small (by decide)), samePut sm fLz, by rw [upd_ne nZL]; exact eZ, ws ++ [oI mo], upd_same, by rw [List.length_append]; simp only [List.length_cons, List.length_nil]; omega, fun v hv => by
            rcases List.mem_append.mp hv with h | h
            · exact bW v h
            · exact ⟨mo, by simpa using h, h1, h2⟩⟩
        cases mo with
        | none =>
          refine ⟨rfl, .non, rfl, _, rfl, ?_⟩
          rw [decide_eq_true rfl]
          exact iteT (iteT ⟨.non, rfl, yes (by decide) (by decide)⟩)
        | some k =>
          refine ⟨rfl, .int k, rfl, _, rfl, ?_⟩
          rw [decide_eq_false (fun y => by cases y)]
          refine iteF ⟨.int k, rfl, _, _, rfl, rfl, _, rfl, ite2 (fun h1 => ⟨_, _, rfl, rfl, _, rfl, ite2 (fun h2 => ⟨.int k, rfl, yes (of_decide_eq_true h1) (of_decide_eq_true h2)⟩) (fun h2 => ⟨sm, eZ, ws, eW, by omega, bW⟩)⟩) (fun h1 => ⟨_, rfl, iteF ⟨sm, eZ, ws, eW, by omega, bW⟩⟩)⟩
      rintro H7 ⟨s7, eZ, ws, eW, lW, bW⟩
      have D7 := D5.same s7
      have x47 := X5.trans (Ext.of s7)
      have hI7 := (D4.tup x47).dp _ _ (to_dInst _ _) hI4
      have oDu : Du ≠ st ∧ Du ≠ c ∧ Du ≠ r := D3.off nDu
      have eDu7 := x47 _ _ eDu oDu.1 oDu.2.2
      have hus7 := (D4.tup x47).dpAll _ _ (to_asgs _) hus
      refine ⟨Lz, rfl, ⟨_, SqL.of eW⟩, for_it (walk_list (K := K) (a := Lz) (xs := ws))
        (fun j σ Hj => ∃ (y7 y8 y9 : Option V), σ = [some (.ref a), some (.ref st), some (.int (0 + (i : Nat))), some (.ref I), some (.str (dInst cs gs).shown), some (.ref Du), some (.ref Zs), y7, y8, y9, none, none, none, none, none] ∧ Same H7 Hj)
        ⟨y7, y8, y9, rfl, Same.refl _⟩ (fun j Hm _ _ h => by obtain ⟨_, _, _, _, s⟩ := h; exact SqL.of (s _ _ eW)) ?_ ?_⟩
      · rintro j v σ Hx Hj hlt ⟨y7, y8, y9, rfl, sj⟩ ⟨rfl, hx⟩
        obtain ⟨mo, rfl, m1, m2⟩ := bW v (List.mem_of_getElem? hx)
        refine (id ?_ : tSeq (tAsg _ _) _ _ _ _)
        refine seq_with (fun σ Hy => σ = [some (.ref a), some (.ref st), some (.int (0 + (i : Nat))), some (.ref I), some (.str (dInst cs gs).shown), some (.ref Du), some (.ref Zs), some (oI mo), some (.int (mo.getD 2000)), y9, none, none, none, none, none] ∧ Hy = Hj) (fun σ Hy h => ?_) (fun rst => ?_)
        · obtain ⟨rfl, rfl⟩ := h
          have hIj := (TupK.of sj).dp _ _ (to_dInst _ _) hI7
          have Dj := D7.same sj
          refine ⟨.ref Du, rfl, Du, us, rfl, .inl (SqL.of (sj _ _ eDu7)), .int (mo.getD 2000), rfl, _, _, rfl, rfl, _, rfl, ite2 (fun h1 => ?_) (fun h1 => ?_)⟩
          · have h1 := of_decide_eq_true h1
            refine ⟨.ref Du, rfl, Du, us, rfl, .inl ⟨SqL.of (sj _ _ eDu7), fun Tw nTw => ?_⟩⟩
            have sw := sameNew (o := .tup us) nTw
            obtain ⟨f1, f2, f3⟩ := fit_all (L := allN cs gs gs.length) (fun rs hrs => ⟨sml rs hrs, by rw [srow rs hrs]; exact hg3⟩) (by omega)
            refine ⟨.ref I, rfl, oI mo, rfl, I, cs, gs, mo, rfl, (TupK.of sw).dp _ _ (to_dInst _ _) hIj, ok.all, m1, m2, fun _ H8 p vs s8 ep hvs => ?_, fun hgt => absurd hgt (by omega)⟩
            rw [eAll] at hvs
            have hw : Dp K H8 (.ref Tw) (.tuple ((allN cs gs gs.length).map dAsg)) := .tup ((TupK.of s8).sq (SqT.of upd_same)) ((TupK.of (sj.trans (sw.trans s8))).dpAll _ _ (to_asgs _) hus7)
            have hto : tupOnly (.tuple ((allN cs gs gs.length).map dAsg)) = true := by simp only [tupOnly]; exact to_asgs _
            refine ⟨.ref Tw, rfl, .ref p, .ref Tw, .tuple ((allN cs gs gs.length).map dAsg), st, r, rfl, Dq.of_dp hto (.tup (SqT.of ep) hvs), Dq.of_dp hto hw, f1, f2, f3, _, rfl, iteF ⟨_, _, _, rfl, sj.trans (sw.trans s8)⟩⟩
          · have h1 : ¬ ((us.length : Nat) : Int) ≤ mo.getD 2000 := fun h => h1 (decide_eq_true h)
            refine ⟨.int (mo.getD 2000), rfl, (show (1 : Nat) ≤ sizeLine by decide), fun p7 n7 m7 => ?_⟩
            have sw := sameNew (o := .lst [.int (mo.getD 2000)]) n7
            obtain ⟨f1, f2, f3⟩ := fit_one (k := mo.getD 2000) (by omega)
            refine ⟨.ref I, rfl, oI mo, rfl, I, cs, gs, mo, rfl, (TupK.of sw).dp _ _ (to_dInst _ _) hIj, ok.all, m1, m2, fun hle => absurd hle (by omega), fun _ H8 p s8 ep np mp => ?_⟩
            have o7 := Dj.off n7
            have o8 := (Dj.same sw).off np
            refine ⟨.ref p7, rfl, .ref p, .ref p7, .list [.int (mo.getD 2000)], st, r, rfl, .lst ep o8.1 o8.2.2 mp (.cons (.int _) .nil), .lst (s8 _ _ upd_same) o7.1 o7.2.2 m7 (.cons (.int _) .nil), f1, f2, f3, _, rfl, iteF ⟨_, _, _, rfl, sj.trans (sw.trans s8)⟩⟩
        · cases mo with
          | none =>
            refine ⟨.non, rfl, _, rfl, ?_⟩
            rw [decide_eq_true rfl]
            exact iteT (rst _ _ ⟨rfl, rfl⟩)
          | some k =>
            refine ⟨.int k, rfl, _, rfl, ?_⟩
            rw [decide_eq_false (fun y => by cases y)]
            exact iteF ⟨.int k, rfl, rst _ _ ⟨rfl, rfl⟩⟩
      · rintro σ Hx ⟨y7, y8, y9, rfl, sx⟩
        refine ⟨.ref I, rfl, .ref I, dInst cs gs, st, r, rfl, Dq.of_dp (to_dInst _ _) ((TupK.of sx).dp _ _ (to_dInst _ _) hI7), fi1, fi2, fi3, .str (dInst cs gs).shown, rfl, rfl, _, rfl, ?_⟩
        refine iteF' (by simp) ?_
        exact ⟨_, _, _, _, _, _, _, _, t3 + 1, rfl, D7.same sx, by omega⟩
    · rintro σ H2 ⟨y2, y3, y4, y5, y6, y7, y8, y9, t2, rfl, D2, ht2⟩
      have ht2 : t2 ≤ 600 := ht2
      refine ⟨.ref st, rfl, _, _, rfl, rfl, ⟨by decide, by decide, by decide⟩, st, c, r, t2, 10 ^ 11, rfl, D2, by omega, by decide, by decide, fun H3 p I v t3 cs gs D3 ht3 X3 hp hI ok => ⟨p, _, 0, .ref I, rfl, rfl, hp, atI_nat (j := 0) rfl, ?_⟩⟩
      refine ⟨.ref st, rfl, st, c, r, t3, 2000, rfl, D3, by omega, by decide, by decide, fun H4 f0 hf0 hf1 D4 X4 => ⟨_, _, rfl, rfl, ?_⟩⟩
      obtain ⟨few, hfew⟩ : ∃ few : Int, 1 + f0 = few := ⟨_, rfl⟩
      dsimp only
      rw [hfew]
      have hI4 := (D3.tup X4).dp _ _ (to_dInst _ _) hI
      obtain ⟨_, ca, ga, xs, e, hi, hc, hg, hgs⟩ := inst_open hI4
      cases e
      have hgl : 0 < gs.length := by have := ok.g1; omega
      have hg0 : gs[0]? = some gs[0] := List.getElem?_eq_getElem hgl
      obtain ⟨gA, pA, hx, hG, hP⟩ := grp_at hgs hg0
      have gp := ok.gp gs[0] (List.getElem_mem hgl)
      generalize gs[0] = g at hg0 hx hG hP gp
      refine ⟨.ref I, rfl, I, _, 1, .ref ga, rfl, rfl, hi, atI_nat (j := 1) rfl, ga, _, 0, .ref gA, rfl, rfl, hg, atI_nat (j := 0) hx, gA, _, rfl, hG, rfl, _, _, rfl, _, _, rfl, rfl, ?_⟩
      refine ⟨.ref pA, rfl, Nat.zero_le _, fun Em nEm => ?_⟩
      have sE := sameNew (o := .tup []) nEm
      refine ⟨pA, Em, _, rfl, rfl, sqS sE hP, SqT.of upd_same, _, rfl, ?_⟩
      generalize upd H4 Em (.tup []) = H5 at sE ⊢
      obtain ⟨g1, g2⟩ := g
      cases g1 with
      | nil => exact iteF (iteF (q _))
      | cons pp ps =>
        refine iteT ?_
        have hpr := gp.2.1 pp (by simp)
        obtain ⟨pn, rfl⟩ : ∃ pn : Nat, pp = pn := ⟨pp.toNat, by omega⟩
        refine ⟨.int g2, rfl, .ref I, rfl, I, _, 0, .ref ca, rfl, rfl, sqS sE hi, atI_nat (j := 0) rfl, .ref pA, rfl, pA, _, 0, .int (pn : Nat), rfl, rfl, sqS sE hP, atI_nat (j := 0) rfl, ca, _, pn, .int (cs.getD pn 0), rfl, rfl, sqS sE hc, atI_nat (atD (by omega)), _, _, rfl, .int few, rfl, _, _, rfl, rfl, _, rfl, ?_⟩
        refine ite2 (fun h1 => ?_) (fun h1 => q _)
        have h1 := of_decide_eq_true h1
        have hlt := far_many ok.all (few := few) hg0 (by split at h1 <;> omega) (by rw [Int.toNat_natCast]; split at h1 <;> omega) (by omega)
        obtain ⟨k1, k2, k3⟩ := fit_one (k := few) (by omega)
        have D5 := D4.same sE
        refine ⟨.ref I, rfl, .int few, rfl, I, cs, gs, some few, rfl, (TupK.of sE).dp _ _ (to_dInst _ _) hI4, ok.all, by show 1 ≤ few; omega, by show few ≤ 2000; omega, fun hle => absurd (show ((endB cs gs gs.length).length : Int) ≤ few from hle) (by omega), fun _ H6 p6 s6 e6 n6 m6 => ?_⟩
        refine ⟨.int few, rfl, (show (1 : Nat) ≤ sizeLine by decide), fun p7 n7 m7 => ?_⟩
        have D6 := D5.same s6
        have o6 := D5.off n6
        have o7 := D6.off n7
        have s7 := sameNew (o := .lst [.int few]) n7
        refine ⟨.ref p6, .ref p7, .list [.int few], st, r, rfl, .lst (s7 _ _ e6) o6.1 o6.2.2 m6 (.cons (.int _) .nil), .lst upd_same o7.1 o7.2.2 m7 (.cons (.int _) .nil), k1, k2, k3, ?_⟩
        exact q _
end
end Pv

namespace Pv
open PySem PySem.Spec PyProof.Rows L2
abbrev siTM : Stmt := inCls (topS 6) 0
theorem sciTM : FnScope ["self", "limit"] ["self", "limit"] (defScope siTM) := ⟨rfl, rfl, rfl, by decide +kernel, rfl, by decide +kernel, by decide +kernel⟩
theorem ok_iTM {P : Program} {w : World} {K : PySem.W.Frag} {mg : Str → Option Value} {base : Heap} {f C : Addr} {fd : FuncData} (F : Fun K "__init__" "TooMany.__init__" siTM f fd) (X : XF K C f "limit") : FnOk P w K mg base CX0 1 f fd ["self", "limit"] (spI1 C "limit") := by
  refine F.ok sciTM (fun vs H Q E h => ?_) (fun cdv A outer s H vs Q E hr h => ?_)
  · obtain ⟨a, v, rfl, _⟩ := h; rfl
  · obtain ⟨a, v, rfl, hH, q⟩ := h
    refine ⟨_, pss_one (ps_ost (pv 0) (pv 1)), ?_⟩
    exact ⟨v, rfl, .ref a, rfl, a, C, rfl, X.T, X.no, .inl ⟨hH, fun dx nd ne => q dx nd ne⟩⟩
end Pv

namespace Pv
open PySem PySem.Spec PyProof.Rows L2
/-! what the top has left -/
set_option maxHeartbeats 8000000 in
theorem all_mk {l : PySem.W.OpenLaw} {w : World} {K : PySem.W.Frag} {h : Heap} {mg : Str → Option Value} {fa fWI fAa fCs fSt fDr fSm fMx fSl fAm fLi fPl fFi fFa fLo fRw fAl fTo fLaw : Addr} (X : K.In h) (G : h.Ns mainGlobals mg) (hfa : mg "law" = some (.ref fa))
    {odWI anWI odAa anAa odCs anCs odSt anSt odDr anDr odSm anSm odMx anMx odSl anSl odAm anAm odLi anLi odPl anPl odFi anFi odFa anFa odLo anLo odRw anRw odAl anAl odTo anTo odLaw anLaw : Option Addr} {slWI slAa slCs slSt slDr slSm slMx slSl slAm slLi slPl slFi slFa slLo slRw slAl slTo slLaw : Array (Option Value)}
    {ocWI kVWI dcWI pmWI cdWI ctWI ocAa kVAa dcAa pmAa cdAa ctAa ocCs kVCs dcCs pmCs cdCs ctCs ocSt kVSt dcSt pmSt cdSt ctSt ocDr kVDr dcDr pmDr cdDr ctDr ocSm kVSm dcSm pmSm cdSm ctSm ocMx kVMx dcMx pmMx cdMx ctMx ocSl kVSl dcSl pmSl cdSl ctSl ocAm kVAm dcAm pmAm cdAm ctAm ocLi kVLi dcLi pmLi cdLi ctLi ocPl kVPl dcPl pmPl cdPl ctPl ocFi kVFi dcFi pmFi cdFi ctFi ocFa kVFa dcFa pmFa cdFa ctFa ocLo kVLo dcLo pmLo cdLo ctLo ocRw kVRw dcRw pmRw cdRw ctRw ocAl kVAl dcAl pmAl cdAl ctAl ocTo kVTo dcTo pmTo cdTo ctTo ocLaw kVLaw dcLaw pmLaw cdLaw ctLaw : Value}
    (aWI : PySem.W.nsIn K mainGlobals "with_item" = some (some (.ref fWI))) (lWI : K.lookup fWI = some ⟨ocWI, odWI, .func (PySem.W.fnOf "with_item" "with_item" (defArgs sWI) (defBody sWI) (defScope sWI) .none kVWI dcWI pmWI anWI cdWI ctWI), slWI⟩)
      (cWI : PySem.W.codeIn K cdWI "with_item" = true) (kWI : PySem.W.keepIn K (.ref fWI) = true)
    (aAa : PySem.W.nsIn K mainGlobals "all_assignments" = some (some (.ref fAa))) (lAa : K.lookup fAa = some ⟨ocAa, odAa, .func (PySem.W.fnOf "all_assignments" "all_assignments" (defArgs sAa) (defBody sAa) (defScope sAa) .none kVAa dcAa pmAa anAa cdAa ctAa), slAa⟩)
      (cAa : PySem.W.codeIn K cdAa "all_assignments" = true) (kAa : PySem.W.keepIn K (.ref fAa) = true)
    (aCs : PySem.W.nsIn K mainGlobals "continued_shares" = some (some (.ref fCs))) (lCs : K.lookup fCs = some ⟨ocCs, odCs, .func (PySem.W.fnOf "continued_shares" "continued_shares" (defArgs sCs) (defBody sCs) (defScope sCs) .none kVCs dcCs pmCs anCs cdCs ctCs), slCs⟩)
      (cCs : PySem.W.codeIn K cdCs "continued_shares" = true) (kCs : PySem.W.keepIn K (.ref fCs) = true)
    (aSt : PySem.W.nsIn K mainGlobals "_law_deck" = some (some (.ref fSt))) (lSt : K.lookup fSt = some ⟨ocSt, odSt, .func (PySem.W.fnOf "_law_deck" "_law_deck" (defArgs sSt) (defBody sSt) (defScope sSt) .none kVSt dcSt pmSt anSt cdSt ctSt), slSt⟩)
      (cSt : PySem.W.codeIn K cdSt "_law_deck" = true) (kSt : PySem.W.keepIn K (.ref fSt) = true)
    (aDr : PySem.W.nsIn K mainGlobals "_law_draw" = some (some (.ref fDr))) (lDr : K.lookup fDr = some ⟨ocDr, odDr, .func (PySem.W.fnOf "_law_draw" "_law_draw" (defArgs sDr) (defBody sDr) (defScope sDr) .none kVDr dcDr pmDr anDr cdDr ctDr), slDr⟩)
      (cDr : PySem.W.codeIn K cdDr "_law_draw" = true) (kDr : PySem.W.keepIn K (.ref fDr) = true)
    (aSm : PySem.W.nsIn K mainGlobals "_law_same" = some (some (.ref fSm))) (lSm : K.lookup fSm = some ⟨ocSm, odSm, .func (PySem.W.fnOf "_law_same" "_law_same" (defArgs sSm) (defBody sSm) (defScope sSm) .none kVSm dcSm pmSm anSm cdSm ctSm), slSm⟩)
      (cSm : PySem.W.codeIn K cdSm "_law_same" = true) (kSm : PySem.W.keepIn K (.ref fSm) = true)
    (aMx : PySem.W.nsIn K mainGlobals "_law_mixed" = some (some (.ref fMx))) (lMx : K.lookup fMx = some ⟨ocMx, odMx, .func (PySem.W.fnOf "_law_mixed" "_law_mixed" (defArgs sMx) (defBody sMx) (defScope sMx) .none kVMx dcMx pmMx anMx cdMx ctMx), slMx⟩)
      (cMx : PySem.W.codeIn K cdMx "_law_mixed" = true) (kMx : PySem.W.keepIn K (.ref fMx) = true)
    (aSl : PySem.W.nsIn K mainGlobals "_law_small" = some (some (.ref fSl))) (lSl : K.lookup fSl = some ⟨ocSl, odSl, .func (PySem.W.fnOf "_law_small" "_law_small" (defArgs sSl) (defBody sSl) (defScope sSl) .none kVSl dcSl pmSl anSl cdSl ctSl), slSl⟩)
      (cSl : PySem.W.codeIn K cdSl "_law_small" = true) (kSl : PySem.W.keepIn K (.ref fSl) = true)
    (aAm : PySem.W.nsIn K mainGlobals "_law_amount" = some (some (.ref fAm))) (lAm : K.lookup fAm = some ⟨ocAm, odAm, .func (PySem.W.fnOf "_law_amount" "_law_amount" (defArgs sAm) (defBody sAm) (defScope sAm) .none kVAm dcAm pmAm anAm cdAm ctAm), slAm⟩)
      (cAm : PySem.W.codeIn K cdAm "_law_amount" = true) (kAm : PySem.W.keepIn K (.ref fAm) = true)
    (aLi : PySem.W.nsIn K mainGlobals "_law_lines" = some (some (.ref fLi))) (lLi : K.lookup fLi = some ⟨ocLi, odLi, .func (PySem.W.fnOf "_law_lines" "_law_lines" (defArgs sLi) (defBody sLi) (defScope sLi) .none kVLi dcLi pmLi anLi cdLi ctLi), slLi⟩)
      (cLi : PySem.W.codeIn K cdLi "_law_lines" = true) (kLi : PySem.W.keepIn K (.ref fLi) = true)
    (aPl : PySem.W.nsIn K mainGlobals "_law_planned" = some (some (.ref fPl))) (lPl : K.lookup fPl = some ⟨ocPl, odPl, .func (PySem.W.fnOf "_law_planned" "_law_planned" (defArgs sPl) (defBody sPl) (defScope sPl) .none kVPl dcPl pmPl anPl cdPl ctPl), slPl⟩)
      (cPl : PySem.W.codeIn K cdPl "_law_planned" = true) (kPl : PySem.W.keepIn K (.ref fPl) = true)
    (aFi : PySem.W.nsIn K mainGlobals "_law_fitted" = some (some (.ref fFi))) (lFi : K.lookup fFi = some ⟨ocFi, odFi, .func (PySem.W.fnOf "_law_fitted" "_law_fitted" (defArgs sFi) (defBody sFi) (defScope sFi) .none kVFi dcFi pmFi anFi cdFi ctFi), slFi⟩)
      (cFi : PySem.W.codeIn K cdFi "_law_fitted" = true) (kFi : PySem.W.keepIn K (.ref fFi) = true)
    (aFa : PySem.W.nsIn K mainGlobals "_law_facts" = some (some (.ref fFa))) (lFa : K.lookup fFa = some ⟨ocFa, odFa, .func (PySem.W.fnOf "_law_facts" "_law_facts" (defArgs sFa) (defBody sFa) (defScope sFa) .none kVFa dcFa pmFa anFa cdFa ctFa), slFa⟩)
      (cFa : PySem.W.codeIn K cdFa "_law_facts" = true) (kFa : PySem.W.keepIn K (.ref fFa) = true)
    (aLo : PySem.W.nsIn K mainGlobals "_law_loads" = some (some (.ref fLo))) (lLo : K.lookup fLo = some ⟨ocLo, odLo, .func (PySem.W.fnOf "_law_loads" "_law_loads" (defArgs sLo) (defBody sLo) (defScope sLo) .none kVLo dcLo pmLo anLo cdLo ctLo), slLo⟩)
      (cLo : PySem.W.codeIn K cdLo "_law_loads" = true) (kLo : PySem.W.keepIn K (.ref fLo) = true)
    (aRw : PySem.W.nsIn K mainGlobals "_law_rows" = some (some (.ref fRw))) (lRw : K.lookup fRw = some ⟨ocRw, odRw, .func (PySem.W.fnOf "_law_rows" "_law_rows" (defArgs sRw) (defBody sRw) (defScope sRw) .none kVRw dcRw pmRw anRw cdRw ctRw), slRw⟩)
      (cRw : PySem.W.codeIn K cdRw "_law_rows" = true) (kRw : PySem.W.keepIn K (.ref fRw) = true)
    (aAl : PySem.W.nsIn K mainGlobals "_law_all" = some (some (.ref fAl))) (lAl : K.lookup fAl = some ⟨ocAl, odAl, .func (PySem.W.fnOf "_law_all" "_law_all" (defArgs sAl) (defBody sAl) (defScope sAl) .none kVAl dcAl pmAl anAl cdAl ctAl), slAl⟩)
      (cAl : PySem.W.codeIn K cdAl "_law_all" = true) (kAl : PySem.W.keepIn K (.ref fAl) = true)
    (aTo : PySem.W.nsIn K mainGlobals "_law_told" = some (some (.ref fTo))) (lTo : K.lookup fTo = some ⟨ocTo, odTo, .func (PySem.W.fnOf "_law_told" "_law_told" (defArgs sTo) (defBody sTo) (defScope sTo) .none kVTo dcTo pmTo anTo cdTo ctTo), slTo⟩)
      (cTo : PySem.W.codeIn K cdTo "_law_told" = true) (kTo : PySem.W.keepIn K (.ref fTo) = true)
    (aLaw : PySem.W.nsIn K mainGlobals "law" = some (some (.ref fLaw))) (lLaw : K.lookup fLaw = some ⟨ocLaw, odLaw, .func (PySem.W.fnOf "law" "law" (defArgs sLaw) (defBody sLaw) (defScope sLaw) .none kVLaw dcLaw pmLaw anLaw cdLaw ctLaw), slLaw⟩)
      (cLaw : PySem.W.codeIn K cdLaw "law" = true) (kLaw : PySem.W.keepIn K (.ref fLaw) = true)
    (z0 : PySem.W.nsIn K mainGlobals "len" = some none)
    (z1 : PySem.W.nsIn K mainGlobals "range" = some none)
    (z2 : PySem.W.nsIn K mainGlobals "tuple" = some none)
    (z3 : PySem.W.nsIn K mainGlobals "list" = some none)
    (z4 : PySem.W.nsIn K mainGlobals "zip" = some none)
    (z5 : PySem.W.nsIn K mainGlobals "int" = some none)
    (z6 : PySem.W.nsIn K mainGlobals "min" = some none)
    (z7 : PySem.W.nsIn K mainGlobals "max" = some none)
    (z8 : PySem.W.nsIn K mainGlobals "sum" = some none)
    (z9 : PySem.W.nsIn K mainGlobals "isinstance" = some none)
    (z10 : PySem.W.nsIn K mainGlobals "repr" = some none)
    {cTM : Addr} (aCTM : PySem.W.nsIn K mainGlobals "TooMany" = some (some (.ref cTM))) (iCTM : isCB K cTM = true)
    {cVE : Addr} (aCVE : PySem.W.nsIn K mainGlobals "VoteError" = some (some (.ref cVE))) (iCVE : isCB K cVE = true)
    {cNU : Addr} (aCNU : PySem.W.nsIn K mainGlobals "NoUnbeaten" = some (some (.ref cNU))) (iCNU : isCB K cNU = true)
    {cTG : Addr} (aCTG : PySem.W.nsIn K mainGlobals "TooGreat" = some (some (.ref cTG))) (iCTG : isCB K cTG = true)
    {cBV : Addr} (aCBV : PySem.W.nsIn K mainGlobals "BadVector" = some (some (.ref cBV))) (iCBV : isCB K cBV = true)
    {nmTM qnTM : Str} {NTM fiTM : Addr} {bsTM bmTM subTM : List Value} {snTM : List Str} {abTM : Bool} {colTM : Option Bool} {ddTM odiTM aniTM : Option Addr} {kaTM kbTM kcTM kdTM keTM : Option Value} {sliTM : Array (Option Value)} {ociTM kViTM dciTM pmiTM cdiTM ctiTM : Value}
    (lXTM : K.lookup cTM = some (excClassObj nmTM qnTM cTM NTM bsTM bmTM true snTM subTM abTM colTM ddTM kaTM kbTM kcTM kdTM keTM "ValueError.__new__")) (vXTM : PySem.HandSPX.refsVE bmTM = true)
    (nXTM : PySem.W.findIn K (.ref cTM) "__init__" = some (some (.ref fiTM))) (lITM : K.lookup fiTM = some ⟨ociTM, odiTM, .func (PySem.W.fnOf "__init__" "TooMany.__init__" (defArgs siTM) (defBody siTM) (defScope siTM) .none kViTM dciTM pmiTM aniTM cdiTM ctiTM), sliTM⟩) (cITM : PySem.W.codeIn K cdiTM "TooMany.__init__" = true) (kITM : PySem.W.keepIn K (.ref fiTM) = true) (bXTM : xf1B K cTM fiTM "limit" = true)
    (x1 : PySem.W.exmOne K (.ref cTM) (.ref cVE) = some true)
    (x2 : PySem.W.kitOne K (.ref cTM) (.ref cTM) = some true)
    (x3 : PySem.W.kitAny K (.ref cTM) [.ref cNU, .ref cTG, .ref cBV] = some false)
    {DA : Addr} {uA : Value} (dA1 : kVAa = .ref DA) (dA2 : PySem.W.nsIn K DA "limit" = some (some uA)) (dA3 : RelV (.int 2000) uA)
    : ∃ fd : FuncData, (∀ (s : Shared) (v : Value), BindsTo s fd ⟨[v], []⟩ [("_law_script", v)]) ∧ ∀ base : Heap, K.In base → base.Ns mainGlobals mg → FnG l.prog w K mg base 9 fa fd ["_law_script"] (spLaw K) := by
  have e := hfa.symm.trans (PySem.W.mg_of X G aLaw)
  cases e
  have FWI := fun_mk (st := sWI) lWI cWI kWI
  have bWI := FWI.binds (ps := ["items", "at", "item"]) fun _ _ _ _ _ _ us hl => match us, hl with | [_, _, _], _ => rfl
  have gWI := PySem.W.mg_of X G aWI
  have FAa := fun_mk (st := sAa) lAa cAa kAa
  have gAa := PySem.W.mg_of X G aAa
  have FCs := fun_mk (st := sCs) lCs cCs kCs
  have bCs := FCs.binds (ps := ["parts", "post", "count", "limit"]) fun _ _ _ _ _ _ us hl => match us, hl with | [_, _, _, _], _ => rfl
  have gCs := PySem.W.mg_of X G aCs
  have FSt := fun_mk (st := sSt) lSt cSt kSt
  have bSt := FSt.binds (ps := ["_law_script"]) fun _ _ _ _ _ _ us hl => match us, hl with | [_], _ => rfl
  have gSt := PySem.W.mg_of X G aSt
  have FDr := fun_mk (st := sDr) lDr cDr kDr
  have bDr := FDr.binds (ps := ["_law_deck_here", "_law_many"]) fun _ _ _ _ _ _ us hl => match us, hl with | [_, _], _ => rfl
  have gDr := PySem.W.mg_of X G aDr
  have FSm := fun_mk (st := sSm) lSm cSm kSm
  have bSm := FSm.binds (ps := ["_law_found", "_law_due"]) fun _ _ _ _ _ _ us hl => match us, hl with | [_, _], _ => rfl
  have gSm := PySem.W.mg_of X G aSm
  have FMx := fun_mk (st := sMx) lMx cMx kMx
  have bMx := FMx.binds (ps := ["_law_deck_here", "_law_items"]) fun _ _ _ _ _ _ us hl => match us, hl with | [_, _], _ => rfl
  have gMx := PySem.W.mg_of X G aMx
  have FSl := fun_mk (st := sSl) lSl cSl kSl
  have bSl := FSl.binds (ps := ["_law_deck_here"]) fun _ _ _ _ _ _ us hl => match us, hl with | [_], _ => rfl
  have gSl := PySem.W.mg_of X G aSl
  have FAm := fun_mk (st := sAm) lAm cAm kAm
  have bAm := FAm.binds (ps := ["_law_deck_here", "_law_most"]) fun _ _ _ _ _ _ us hl => match us, hl with | [_, _], _ => rfl
  have gAm := PySem.W.mg_of X G aAm
  have FLi := fun_mk (st := sLi) lLi cLi kLi
  have bLi := FLi.binds (ps := ["_law_deck_here", "_law_posts"]) fun _ _ _ _ _ _ us hl => match us, hl with | [_, _], _ => rfl
  have gLi := PySem.W.mg_of X G aLi
  have FPl := fun_mk (st := sPl) lPl cPl kPl
  have bPl := FPl.binds (ps := ["_law_deck_here", "_law_most"]) fun _ _ _ _ _ _ us hl => match us, hl with | [_, _], _ => rfl
  have gPl := PySem.W.mg_of X G aPl
  have FFi := fun_mk (st := sFi) lFi cFi kFi
  have bFi := FFi.binds (ps := ["_law_deck_here", "_law_instance", "_law_numbers"]) fun _ _ _ _ _ _ us hl => match us, hl with | [_, _, _], _ => rfl
  have gFi := PySem.W.mg_of X G aFi
  have FFa := fun_mk (st := sFa) lFa cFa kFa
  have bFa := FFa.binds (ps := ["_law_instance"]) fun _ _ _ _ _ _ us hl => match us, hl with | [_], _ => rfl
  have gFa := PySem.W.mg_of X G aFa
  have FLo := fun_mk (st := sLo) lLo cLo kLo
  have bLo := FLo.binds (ps := ["_law_instance", "_law_rows_here"]) fun _ _ _ _ _ _ us hl => match us, hl with | [_, _], _ => rfl
  have gLo := PySem.W.mg_of X G aLo
  have FRw := fun_mk (st := sRw) lRw cRw kRw
  have bRw := FRw.binds (ps := ["_law_size", "_law_count"]) fun _ _ _ _ _ _ us hl => match us, hl with | [_, _], _ => rfl
  have gRw := PySem.W.mg_of X G aRw
  have FAl := fun_mk (st := sAl) lAl cAl kAl
  have bAl := FAl.binds (ps := ["_law_instance"]) fun _ _ _ _ _ _ us hl => match us, hl with | [_], _ => rfl
  have gAl := PySem.W.mg_of X G aAl
  have FTo := fun_mk (st := sTo) lTo cTo kTo
  have bTo := FTo.binds (ps := ["_law_instance", "_law_most"]) fun _ _ _ _ _ _ us hl => match us, hl with | [_, _], _ => rfl
  have gTo := PySem.W.mg_of X G aTo
  have FLaw := fun_mk (st := sLaw) lLaw cLaw kLaw
  have m_len := PySem.W.mg_none_of X G z0
  have m_range := PySem.W.mg_none_of X G z1
  have m_tuple := PySem.W.mg_none_of X G z2
  have m_list := PySem.W.mg_none_of X G z3
  have m_zip := PySem.W.mg_none_of X G z4
  have m_int := PySem.W.mg_none_of X G z5
  have m_min := PySem.W.mg_none_of X G z6
  have m_max := PySem.W.mg_none_of X G z7
  have m_sum := PySem.W.mg_none_of X G z8
  have m_isinstance := PySem.W.mg_none_of X G z9
  have m_repr := PySem.W.mg_none_of X G z10
  have gTM := PySem.W.mg_of X G aCTM
  have ITM := isCB_ok iCTM
  have gVE := PySem.W.mg_of X G aCVE
  have IVE := isCB_ok iCVE
  have gNU := PySem.W.mg_of X G aCNU
  have INU := isCB_ok iCNU
  have gTG := PySem.W.mg_of X G aCTG
  have ITG := isCB_ok iCTG
  have gBV := PySem.W.mg_of X G aCBV
  have IBV := isCB_ok iCBV
  have XTM := xf1B_ok bXTM ⟨_, _, _, _, _, _, _, _, _, _, _, _, _, _, _, lXTM, vXTM⟩
  have FiTM := fun_mk (st := siTM) lITM cITM kITM
  have biTM := FiTM.binds (ps := ["self", "limit"]) fun _ _ _ _ _ _ us hl => match us, hl with | [_, _], _ => rfl
  refine ⟨PySem.W.fnOf "law" "law" (defArgs sLaw) (defBody sLaw) (defScope sLaw) .none kVLaw dcLaw pmLaw anLaw cdLaw ctLaw, fun s v => .of_eq rfl, fun base _ _ => ?_⟩
  have GiTM := ok_iTM (P := l.prog) (w := w) (base := base) (mg := mg) FiTM XTM
  have GWI := ok_WI (P := l.prog) (w := w) (base := base) (mg := mg) FWI     
  have GCs := ok_Cs (P := l.prog) (w := w) (base := base) (mg := mg) FCs  FWI bWI gWI GWI gTM XTM GiTM biTM  m_sum m_min m_range m_len
  have GAa := ok_Aa (P := l.prog) (w := w) (base := base) (mg := mg) FAa  FCs bCs gCs GCs   m_tuple
  have GSt := ok_St (P := l.prog) (w := w) (base := base) (mg := mg) FSt     m_list m_len m_int
  have GDr := ok_Dr (P := l.prog) (w := w) (base := base) (mg := mg) FDr     m_len
  have GMx := ok_Mx (P := l.prog) (w := w) (base := base) (mg := mg) FMx  FDr bDr gDr GDr   m_list m_len
  have GAm := ok_Am (P := l.prog) (w := w) (base := base) (mg := mg) FAm  FDr bDr gDr GDr   m_min
  have GLi := ok_Li (P := l.prog) (w := w) (base := base) (mg := mg) FLi  FDr bDr gDr GDr FMx bMx gMx GMx   m_max m_list m_range m_tuple
  have GSl := ok_Sl (P := l.prog) (w := w) (base := base) (mg := mg) FSl  FDr bDr gDr GDr FMx bMx gMx GMx   m_range m_tuple m_list
  have GRw := ok_Rw (P := l.prog) (w := w) (base := base) (mg := mg) FRw bRw gRw m_range 5
  have GLo := ok_Lo (P := l.prog) (w := w) (base := base) (mg := mg) FLo     m_len m_zip
  have GAl := ok_Al (P := l.prog) (w := w) (base := base) (mg := mg) FAl  FRw bRw gRw GRw FLo bLo gLo GLo   m_len m_zip
  have GFa := ok_Fa (P := l.prog) (w := w) (base := base) (mg := mg) FFa     m_len m_zip m_max m_range
  have GFi := ok_Fi (P := l.prog) (w := w) (base := base) (mg := mg) FFi  FFa bFa gFa GFa FDr bDr gDr GDr   m_list m_len m_min m_sum m_max m_range m_tuple
  have GPl := ok_Pl (P := l.prog) (w := w) (base := base) (mg := mg) FPl  FDr bDr gDr GDr FAm bAm gAm GAm FLi bLi gLi GLi FFi bFi gFi GFi   m_max m_range m_zip m_int m_min m_tuple
  have GSm := ok_Sm (P := l.prog) (w := w) (base := base) (mg := mg) FSm     m_repr
  have hKw : L2.KwdV K kVAa [("limit", V.int 2000)] := .inr ⟨DA, dA1, fun q hq => by
    have e : q = (("limit" : Str), V.int 2000) := by simpa using hq
    rw [e]
    exact ⟨uA, dA2, dA3⟩⟩
  have FDA : L2.FunD K "all_assignments" "all_assignments" (defArgs sAa) (defBody sAa) (defScope sAa) [] [("limit", V.int 2000)] fAa (PySem.W.fnOf "all_assignments" "all_assignments" (defArgs sAa) (defBody sAa) (defScope sAa) .none kVAa dcAa pmAa anAa cdAa ctAa) := ⟨⟨_, _, .none, _, _, _, _, _, _, _, rfl, lAa, cAa, .inl ⟨rfl, rfl⟩, hKw⟩, kAa⟩
  obtain ⟨mvA, bDA⟩ := FDA.kbinds0 (ps := ["instance", "limit"]) 1 [] [("limit", V.int 2000)] (fun us mv _ => us ++ mv) (by simp) (fun q hq => hq) (fun r1 r2 _ => r1.append r2)
    (fun D doc pm an cdv ct us mv ws l1 l2 l3 => match us, mv, ws, l1, l2, l3 with | [_], [_], [], _, _, _ => ⟨_, _, _, _, _, _, rfl, rfl, rfl⟩)
  have GTo := ok_To (P := l.prog) (w := w) (base := base) (mg := mg) FTo FAa bDA gAa GAa gVE gNU gTG gBV gTM ITM XTM x1 x2 x3 m_isinstance
  exact ok_Law (P := l.prog) (w := w) (base := base) FLaw  FSt bSt gSt GSt FSl bSl gSl GSl FAl bAl gAl GAl FDr bDr gDr GDr FTo bTo gTo GTo FSm bSm gSm GSm FPl bPl gPl GPl   m_range m_repr m_len m_tuple m_min
end Pv

open PySem PySem.W PyProof.Rows
set_option maxRecDepth 100000 in
set_option maxHeartbeats 0 in
theorem PySem.Challenge.cw_postvote_k50_all_assignments_listed_holds : PySem.Challenge.rw_postvote_k50_all_assignments_listed.Holds := by
  w_on; o_law; k_head; (case hw => w_witness2)
  k_fill
  refine Pv.walkG (l := PySem.Challenge.rw_postvote_k50_all_assignments_listed) (n := 63) (k := 9) (x := "_law_script") (sp := fun w => Pv.spLaw _) rfl (by decide) rfl ⟨rfl, by decide, by decide⟩ (fun w h Y => PySem.W.kIn_of Y) ?F (fun _ _ a ns hl _ _ hS => ⟨a, ns, rfl, hS, hl, fun _ => rfl⟩)
  case F =>
    intro w mg fa h KX G hmg
    refine' Pv.all_mk KX G hmg ?aWI ?lWI ?cWI ?kWI ?aAa ?lAa ?cAa ?kAa ?aCs ?lCs ?cCs ?kCs ?aSt ?lSt ?cSt ?kSt ?aDr ?lDr ?cDr ?kDr ?aSm ?lSm ?cSm ?kSm ?aMx ?lMx ?cMx ?kMx ?aSl ?lSl ?cSl ?kSl ?aAm ?lAm ?cAm ?kAm ?aLi ?lLi ?cLi ?kLi ?aPl ?lPl ?cPl ?kPl ?aFi ?lFi ?cFi ?kFi ?aFa ?lFa ?cFa ?kFa ?aLo ?lLo ?cLo ?kLo ?aRw ?lRw ?cRw ?kRw ?aAl ?lAl ?cAl ?kAl ?aTo ?lTo ?cTo ?kTo ?aLaw ?lLaw ?cLaw ?kLaw ?z0 ?z1 ?z2 ?z3 ?z4 ?z5 ?z6 ?z7 ?z8 ?z9 ?z10 ?aCTM ?iCTM ?aCVE ?iCVE ?aCNU ?iCNU ?aCTG ?iCTG ?aCBV ?iCBV ?lXTM ?vXTM ?nXTM ?lITM ?cITM ?kITM ?bXTM ?x1 ?x2 ?x3 ?dA1 ?dA2 ?dA3
    (case aWI => k_is); (case lWI => k_is); (case cWI => k_is); (case kWI => k_is); (case aAa => k_is); (case lAa => k_is); (case cAa => k_is); (case kAa => k_is); (case aCs => k_is); (case lCs => k_is); (case cCs => k_is); (case kCs => k_is); (case aSt => k_is); (case lSt => k_is); (case cSt => k_is); (case kSt => k_is); (case aDr => k_is); (case lDr => k_is); (case cDr => k_is); (case kDr => k_is); (case aSm => k_is); (case lSm => k_is); (case cSm => k_is); (case kSm => k_is); (case aMx => k_is); (case lMx => k_is); (case cMx => k_is); (case kMx => k_is); (case aSl => k_is); (case lSl => k_is); (case cSl => k_is); (case kSl => k_is); (case aAm => k_is); (case lAm => k_is); (case cAm => k_is); (case kAm => k_is); (case aLi => k_is); (case lLi => k_is); (case cLi => k_is); (case kLi => k_is); (case aPl => k_is); (case lPl => k_is); (case cPl => k_is); (case kPl => k_is); (case aFi => k_is); (case lFi => k_is); (case cFi => k_is); (case kFi => k_is); (case aFa => k_is); (case lFa => k_is); (case cFa => k_is); (case kFa => k_is); (case aLo => k_is); (case lLo => k_is); (case cLo => k_is); (case kLo => k_is); (case aRw => k_is); (case lRw => k_is); (case cRw => k_is); (case kRw => k_is); (case aAl => k_is); (case lAl => k_is); (case cAl => k_is); (case kAl => k_is); (case aTo => k_is); (case lTo => k_is); (case cTo => k_is); (case kTo => k_is); (case aLaw => k_is); (case lLaw => k_is); (case cLaw => k_is); (case kLaw => k_is); (case z0 => k_is); (case z1 => k_is); (case z2 => k_is); (case z3 => k_is); (case z4 => k_is); (case z5 => k_is); (case z6 => k_is); (case z7 => k_is); (case z8 => k_is); (case z9 => k_is); (case z10 => k_is); (case aCTM => k_is); (case iCTM => kernel_rfl); (case aCVE => k_is); (case iCVE => kernel_rfl); (case aCNU => k_is); (case iCNU => kernel_rfl); (case aCTG => k_is); (case iCTG => kernel_rfl); (case aCBV => k_is); (case iCBV => kernel_rfl); (case lXTM => k_is); (case vXTM => kernel_rfl); (case nXTM => k_is); (case lITM => k_is); (case cITM => k_is); (case kITM => k_is); (case bXTM => kernel_rfl); (case x1 => kernel_rfl); (case x2 => kernel_rfl); (case x3 => kernel_rfl); (case dA1 => exact rfl); (case dA2 => k_is); (case dA3 => exact ⟨_, rfl⟩)

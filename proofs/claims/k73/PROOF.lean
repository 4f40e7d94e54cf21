import PyProof.Rows.All
import Wide.All
import OpenK.AllK
import Wide.FinOn
import HandS.ForMost
import HandS.Conv
import HandS.Zip
import HandS.Walk
import HandS.IsInst
import HandS.Wide
import HandS.EndBits
import HandS.TupAny
import HandS.TupMul
import HandS.Style
import HandS.Deep
import HandS.NoneIn
import HandS.TupLe
import KE.GoesMore
import KE.GoesZip
import HandS.Dict
import HandS.Codes
import HandS.SetFor
import HandS.Strs
import HandS.Text
import HandS.StrMore
import HandS.FStr
import KE.KxAffix
import KE.KxText
import HandS.Exc
import HandS.ExcOwn
import HandS.WordsExc
import HandS.ExcField
import HandS.ExcInit
import KE.KExcIs
import HandS.Steps
import HandS.Iter
import PyProof.StrLawsRepr
import PySem.Challenge.RW_postvote_k73_other_texts_of_assignments
set_option Elab.async false
set_option linter.all false
set_option maxRecDepth 100000
namespace Pv
open PySem PySem.Spec PyProof.Rows L2

/-! heaps -/
theorem upNew {H : Hp} {p b : Addr} {o z : HO} (np : H p = none) (h : H b = some z) : upd H p o b = some z := by
  rw [upd_ne (ne_of_none h np)]; exact h
theorem sameNew {H : Hp} {p : Addr} {o : HO} (np : H p = none) : Same H (upd H p o) := fun _ _ e => upNew np e

/-! a def that is called where no repr is under way -/
structure FnG (P : Program) (w : World) (K : PySem.W.Frag) (mg : Str → Option Value) (base : Heap) (k : Nat) (f : Addr) (fd : FuncData) (ps : List Str) (sp : Sp) : Prop where
  cnt : ∀ vs H Q E, sp vs H Q E → vs.length = ps.length
  go : ∀ (A : Around) (outer : List Env) (s : Shared) (H : Hp) (args : Args) (us : List Value) (vs : List V) (Q : VK) (E : XK),
    A.guards = some [] → Room k A → Env0 P w K mg base A outer s H → BindsTo s fd args (ps.zip us) → Vals vs us →
    sp vs H Q E → codeAny (model P w) A (.call (.ref f) args) (CR CX0 outer P w H s Q E) s
section
variable {P : Program} {w : World} {K : PySem.W.Frag} {mg : Str → Option Value} {base : Heap}
theorem okG {x qual : Str} {st : Stmt} {f : Addr} {fd : FuncData} {N ps : List Str} {k : Nat} {sp : Sp}
    (F : Fun K x qual st f fd) (S : FnScope N ps (defScope st)) (cnt : ∀ vs H Q E, sp vs H Q E → vs.length = ps.length)
    (hbody : ∀ (cdv : Value) (A : Around) (outer : List Env) (s : Shared) (H : Hp) (vs : List V) (Q : VK) (E : XK),
      A.guards = some [] → Room k (A.deeper (envOfC qual (defScope st) s.heap.objs.size f cdv)) → sp vs H Q E →
      ∃ t, PSs (cxOf CX0 P w K mg base N qual (defScope st) f cdv A outer s H E).nox (defBody st) t ∧
        t { nx := fun _ H' => Q .non H', rt := Q } (start N vs) H) : FnG P w K mg base (k + 1) f fd ps sp := by
  obtain ⟨oc, od, kV, doc, pm, an, cdv, ct, osl, rfl, lk, hcd⟩ := F.ex
  refine ⟨cnt, ?_⟩
  intro A outer s H args us vs Q E hgd hr e0 hb r hsp
  have hl := cnt vs H Q E hsp
  have kk : ∀ b o, base.get? b = some o → s.heap.get? b = some o := fun b o e => (e0.bs b o e).1
  have KX : K.In s.heap := e0.mod.kin.keeps kk
  have lim : s.heap.NoLimit := e0.mod.nolimit.keeps kk
  refine codeAny_call_function hr.depth (KX _ _ lk) rfl S.co S.gen rfl (PySem.W.codeRec_of KX hcd)
    (hb _ _ _ _ (wpAny_newFunctionEnv_cells S.kind ?_ ?_))
  · rintro ⟨n, v⟩ hy
    rcases S.par n (List.of_mem_zip hy).1 with q | q
    · left; exact q
    · right; exact ⟨q, PySem.W.cellsFrom_some _ _ _ (Or.inl q)⟩
  · intro env he s1 x
    cases he
    refine ⟨lim.keeps x.toInCall.keep, ?_⟩
    apply codeAny_func
    obtain ⟨t, ht0, hq⟩ := hbody cdv A outer s H vs Q E hgd (hr.deeper _) hsp
    have ht := ht0.nox
    have I := inv_start (CX := CX0) (f := f) (qual := qual) (E := E) S hr.hd e0 hl r x
    refine wpAny_mono (ht.run [] s1 (start N vs) H _ I hq) ?_ (fun _ _ z => z)
    intro fl s' hs
    cases fl with
    | ret u => obtain ⟨v, σ', H', J, rv, q⟩ := hs; exact ⟨v, H', J.os, J.bare, J.base, J.hok, rv, q⟩
    | next => obtain ⟨σ', H', J, q⟩ := hs; exact ⟨V.non, H', J.os, J.bare, J.base, J.hok, rfl, q⟩
    | brk => obtain ⟨_, _, _, q⟩ := hs; exact q.elim
    | cont => obtain ⟨_, _, _, q⟩ := hs; exact q.elim
end
section
variable {X : Cx} {k : Nat} {f : Addr} {fd : FuncData} {ps : List Str} {sp : Sp} {x : Str} {p pos : Pos} {e : Expr} {es : List Expr} {t : TA}
theorem pe_callG (F : FnG X.prog X.w X.K X.mg X.base k f fd ps sp) (hgd : X.A.guards = some []) (hr : Room k X.A) (hg : Gl X x)
    (hm : X.mg x = some (.ref f)) (hk : PySem.W.keepIn X.K (.ref f) = true) (hb : Binds X.K fd ps []) (ha : PA X (e :: es) t)
    (hdb : (x == ("__debug__" : Str)) = false := by decide) (he : starEach (e :: es) X.env = (false, eval e X.env) :: starEach es X.env := by rfl)
    (hpl : (backTo pos (starEach es X.env)).any (·.1) = false := by rfl) :
    PE X (.Call (.Name x p) (e :: es) [] pos) (tCall sp [] E0 t) := by
  constructor
  intro pins s σ H Q I h
  refine wpAny_Call_Name_kw (ld_glob I hg hm ?_ hdb)
  refine PySem.W.callWith_K (h₀ := X.base) I.ok.mod.kin hk (thn (ha.run pos pins s σ H _ I h) ?_) he hpl
  rintro us s1 ⟨vs, H1, I1, r, q⟩
  refine ⟨I1.kIn, ?_⟩
  have r2 : Vals (vs ++ []) (us ++ []) := r.append .nil
  have hl : (us ++ []).length = ps.length := by rw [← r2.length]; exact F.cnt _ _ _ _ q
  refine wpAny_call (codeAny_mono (F.go X.A X.stack s1 H1 ⟨us, []⟩ (us ++ []) (vs ++ []) Q E0 hgd hr I1.env0 (hb s1 us I1.kIn hl) r2 q) ?_)
  intro rr s' hq
  match rr, hq with
  | .error e, hq => exact hq.elim
  | .ok (.ret u), hq => exact I1.after hq
  | .ok .next, hq => exact hq.elim
  | .ok .brk, hq => exact hq.elim
  | .ok .cont, hq => exact hq.elim
end
theorem lawG {P : Program} {w : World} {K : PySem.W.Frag} {mg mb : Str → Option Value} {k : Nat} {fa a : Addr} {fd : FuncData} {x : Str} {sp : Sp}
    {s₁ : Shared} {vs : List Value} {ns : List Int} (KX : K.In s₁.heap) (hns : s₁.heap.Ns mainGlobals mg) (hb : s₁.heap.Ns builtinsNs mb)
    (hbb : ∀ x : Str, x ≠ "__name__" → mb x = bootBuiltins x) (hlim : s₁.heap.NoLimit) (hg : s₁.gens = #[])
    (ha : s₁.heap.get? a = some { cls := .type "list", data := .seq vs.toArray }) (hi : IntsAre vs ns) (hl : ns.length ≤ sizeLine)
    (hr : Room k callerA) (F : ∀ base : Heap, K.In base → base.Ns mainGlobals mg → FnG P w K mg base k fa fd [x] sp)
    (hbind : ∀ (s : Shared) (u : Value), BindsTo s fd ⟨[u], []⟩ [(x, u)])
    (hsp : ∀ H : Hp, Only H → SqL K H a (ns.map V.int) → sp [.ref a] H (fun v _ => v = .bl true) E0) :
    codeAny (model P w) callerA (.call (.ref fa) ⟨[.ref a], []⟩)
      (fun r s' => r = .ok (.ret (.bool true)) ∧ OldK s₁.heap s'.heap ∧ s'.os = s₁.os ∧ AllBare s'.gens) s₁ := by
  have rv := vals_ints hi
  have lenV := hi.length
  have core : ∀ H : Hp, Only H → SqL K H a (ns.map V.int) → HOk P w H s₁.heap → (∀ b, H b ≠ none → b = a) → (H a ≠ none → K.lookup a = none) →
      codeAny (model P w) callerA (.call (.ref fa) ⟨[.ref a], []⟩)
        (fun r s' => r = .ok (.ret (.bool true)) ∧ OldK s₁.heap s'.heap ∧ s'.os = s₁.os ∧ AllBare s'.gens) s₁ := by
    intro H hO hS hok hA hK
    have noD : ∀ {b : Addr} {o : Obj} {es : Array DictEntry} {ep : Nat}, s₁.heap.get? b = some o → o.data = .dict es ep → H b = none := by
      intro b o es ep e d
      match q : H b with
      | none => rfl
      | some u =>
        obtain rfl : b = a := hA b (by rw [q]; simp)
        rw [ha] at e
        cases e
        exact absurd d (by intro z; cases z)
    have nsK : ∀ {b : Addr} {m : Str → Option Value}, s₁.heap.Ns b m → (hidT s₁.heap H).Ns b m := by
      rintro b m ⟨o, es, ep, e, d, r⟩
      exact ⟨o, es, ep, hidT_get e (noD e d), d, r⟩
    have hKb : K.In (hidT s₁.heap H) := by
      intro b o e
      refine hidT_get (KX b o e) ?_
      match q : H b with
      | none => rfl
      | some u =>
        obtain rfl : b = a := hA b (by rw [q]; simp)
        rw [hK (by rw [q]; simp)] at e
        cases e
    have hM : Mod K mg (hidT s₁.heap H) := by
      obtain ⟨mc, h1, h2⟩ := hlim
      exact ⟨hKb, nsK hns, ⟨mb, nsK hb, hbb⟩, ⟨mc, nsK h1, h2⟩⟩
    have e0 : Env0 P w K mg (hidT s₁.heap H) callerA [] s₁ H :=
      ⟨rfl, hM, fun b o e => of_hidT e, Nat.le_of_eq (hidT_size _ _), trivial, (fun b hb => by cases hb), hok, .of_eq hg⟩
    refine codeAny_mono ((F _ hKb (nsK hns)).go callerA [] s₁ H ⟨[.ref a], []⟩ [.ref a] [.ref a] _ _ rfl hr e0 (hbind s₁ (.ref a)) (.cons rfl .nil) (hsp H hO hS)) ?_
    intro r s' h
    match r, h with
    | .error e, h => exact h.elim
    | .ok .next, h => exact h.elim
    | .ok .brk, h => exact h.elim
    | .ok .cont, h => exact h.elim
    | .ok (.ret u), h =>
      obtain ⟨v, H', os, bare, un, hok', r', q⟩ := h
      cases (show v = V.bl true from q)
      cases (show u = Value.bool true from r')
      refine ⟨rfl, OldK.of_keep ?_, os, bare⟩
      intro b o e
      match q : H b with
      | none => exact un.keep b o e q (by intro z; cases z) (by intro z; cases z)
      | some u =>
        rcases hO b with z | ⟨ob, xs, z⟩
        · rw [q] at z; cases z
        · obtain ⟨e1, _⟩ := hok b _ z
          obtain ⟨e2, _⟩ := hok' b _ (un.frzs b ob _ z)
          rw [e] at e1
          cases e1
          exact e2
  match hk : K.lookup a with
  | some o =>
    have e := KX a o hk
    rw [ha] at e
    cases e
    refine core (fun _ => none) (fun _ => .inl rfl) (.inr ⟨_, vs.toArray, _, hk, rfl, rfl, rfl, ?_, by simpa using rv⟩) (fun b u z => by cases z) (fun b z => absurd rfl z) (fun z => absurd rfl z)
    rw [List.size_toArray, lenV]; exact hl
  | none =>
    let HA : Hp := fun b => if b = a then some (.frz { cls := .type "list", data := .seq vs.toArray } (.lst (ns.map V.int))) else none
    have at_a : HA a = some (.frz { cls := .type "list", data := .seq vs.toArray } (.lst (ns.map V.int))) := if_pos rfl
    have at_ne : ∀ b, b ≠ a → HA b = none := fun b h => if_neg h
    refine core HA ?_ (.inl (.inr ⟨_, at_a⟩)) ?_ ?_ (fun _ => hk)
    · intro b
      by_cases hb : b = a
      · subst hb; exact .inr ⟨_, _, at_a⟩
      · exact .inl (at_ne b hb)
    · intro b u z
      by_cases hb : b = a
      · subst hb
        rw [at_a] at z
        cases z
        exact ⟨ha, by rw [List.length_map]; exact hl, vs, _, rv, ha⟩
      · rw [at_ne b hb] at z; cases z
    · intro b z
      by_cases hb : b = a
      · exact hb
      · exact absurd (at_ne b hb) z
theorem walkG {l : PySem.W.OpenLaw} {n k : Nat} {q : Program} {loose : List Str} {XP : (Str → Option Value) → Heap → Prop} {YP : World → Heap → Prop}
    {d : DefRec} {K : Params → PySem.W.Frag} {sp : World → Sp} {x : Str} (hn : l.most = some n) (hn2 : n ≤ sizeLine) (hdf : d.params.defaults = [])
    (hr : Room k callerA) (hY : ∀ (w : World) (h : Heap), YP w h → (K w.params).In h)
    (F : ∀ (w : World) (mg : Str → Option Value) (fa : Addr) (h : Heap), (K w.params).In h → h.Ns mainGlobals mg → mg d.name = some (.ref fa) →
      ∃ fd : FuncData, (∀ (s : Shared) (u : Value), BindsTo s fd ⟨[u], []⟩ [(x, u)]) ∧
        ∀ base : Heap, (K w.params).In base → base.Ns mainGlobals mg → FnG l.prog w (K w.params) mg base k fa fd [x] (sp w))
    (hsp : ∀ (w : World) (H : Hp) (a : Addr) (ns : List Int), ns.length ≤ n → (∀ z ∈ ns, Builtin.Int.intBits z ≤ 1048576) → Only H →
      SqL (K w.params) H a (ns.map V.int) → sp w [.ref a] H (fun v _ => v = .bl true) E0) :
    PySem.W.WalkO q loose XP YP l.row.toRowW d [] (fun f vs => PySem.call f vs) := by
  refine Att.attach_callB hn hdf ?_
  intro w s₀ s₁ mg mb fa o pm cd doc a vs ns G Y ho hd hcd hmg hobj hints hlen hbits hg
  have KX := hY w _ Y
  obtain ⟨fd, hb, hF⟩ := F w mg fa _ KX G.T.g hmg
  exact lawG KX G.T.g G.T.b G.T.builtins G.T.nolimit hg hobj hints (Nat.le_trans hlen hn2) hr hF hb (fun H hO hS => hsp w H a ns hlen hbits hO hS)

/-! repr of data -/
theorem call_reprD {X : Cx} (hg : X.A.guards = some []) (hu : X.A.units + 70 < cLine) : CallR X (.builtin "repr")
    (fun xs H Q => ∃ a d, xs = [.ref a] ∧ Dp X.K H (.ref a) d ∧ d.showable = true ∧ d.hasDict = false ∧ d.depth ≤ 60 ∧
      d.shown.length ≤ sizeLine ∧ Q (.str d.shown) H) := by
  intro pins s σ H xs us Q I r h
  obtain ⟨a, d, rfl, hd, h1, h2, h3, h4, q⟩ := h
  obtain ⟨u, rfl, rfl⟩ := vals1 r
  obtain ⟨as, rd⟩ := Dp.reads I d _ _ hd rfl
  exact repr_of_reads' rd h1 (PyData.noDict_hsm h2) hg (by omega) (fun _ _ e => e) (fun h' u tk hk => ⟨.str _, H, I.kept hk, ⟨_, rfl⟩, q⟩) h4
end Pv

namespace Pv
open PySem PySem.Spec PyProof.Rows L2
theorem tup_mul0 (l : Addr) (items : Array Value) (n : Nat) (dd : Option Addr) (sl : Array (Option Value)) (u : Tok) (hi : items.isEmpty = false) :
    Meets (Builtin.«tuple.__mul__» ⟨[.ref l, .int ((0 : Nat) : Int) u], []⟩) (fun _ R s => s.heap.get? l = some { cls := .type "tuple", dict := dd, data := .seq items n, slots := sl } ∧
      R (.ok (.ret (Value.ref s.heap.objs.size))) { s with heap := s.heap.push { cls := Value.type "tuple", data := Data.seq #[] }, toks := s.toks }) :=
  .of_wp fun prog w A R s h => by
    obtain ⟨hp, g, d, tk, os⟩ := s
    obtain ⟨hl, h⟩ := h
    have f1 := AutoSeq1.idx_int
    wp_walk using AutoSeq1.wpAny_loadPart' hl
    repeat (first
      | (refine wpAny_ite_false (decide_eq_false (by simp [hi])) ?_; wp_walk using AutoSeq1.wpAny_loadPart' hl)
      | (refine wpAny_ite_true (decide_eq_true (by simp [hi])) ?_; wp_walk using AutoSeq1.wpAny_loadPart' hl))
    exact ⟨_, rfl, h⟩
theorem tup_mul1 (l : Addr) (items : Array Value) (n : Nat) (dd : Option Addr) (sl : Array (Option Value)) (u : Tok) :
    Meets (Builtin.«tuple.__mul__» ⟨[.ref l, .int ((1 : Nat) : Int) u], []⟩) (fun _ R s => s.heap.get? l = some { cls := .type "tuple", dict := dd, data := .seq items n, slots := sl } ∧
      R (.ok (.ret (Value.ref l))) s) :=
  .of_wp fun prog w A R s h => by
    obtain ⟨hp, g, d, tk, os⟩ := s
    obtain ⟨hl, h⟩ := h
    have f1 := AutoSeq1.idx_int
    wp_walk using AutoSeq1.wpAny_loadPart' hl
    repeat (first
      | (refine wpAny_ite_false (decide_eq_false (by simp)) ?_; wp_walk using AutoSeq1.wpAny_loadPart' hl)
      | (refine wpAny_ite_true (decide_eq_true (by simp)) ?_; wp_walk using AutoSeq1.wpAny_loadPart' hl))
    exact ⟨_, rfl, h⟩
def rRepA (K : PySem.W.Frag) : R2 := fun x y H Q => ∃ (l : Addr) (k : Nat) (xs : List V), x = .ref l ∧ y = .int k ∧ SqT K H l xs ∧ xs ≠ [] ∧ k ≤ 1000 ∧ xs.length ≤ 1000 ∧
    (k = 1 → Q (.ref l) H) ∧ (k ≠ 1 → ∀ p, H p = none → Q (.ref p) (upd H p (.tup (List.replicate k xs).flatten)))
abbrev RC := List V → Hp → VK → Prop
def rLenQ (K : PySem.W.Frag) : RC := fun xs H Q => ∃ (p : Addr) (ys : List V), xs = [.ref p] ∧ (SqL K H p ys ∨ SqT K H p ys) ∧ Q (.int ys.length) H
def rTupQ (K : PySem.W.Frag) : RC := fun xs H Q => ∃ (p : Addr) (ys : List V), xs = [.ref p] ∧ ((SqL K H p ys ∧ ∀ l, H l = none → Q (.ref l) (upd H l (.tup ys))) ∨ (SqT K H p ys ∧ Q (.ref p) H))
section
variable {X : Cx}
theorem call_lenQ : CallR X (.builtin "len") (rLenQ X.K) := call_len_seq
theorem call_tupQ : CallR X (.type "tuple") (rTupQ X.K) := call_tuple_of
/-- o[i] of a list, for o[i] += e -/
theorem get_list : PGet X (fun o i H Q => ∃ (p : Addr) (xs : List V) (j : Nat) (v : V), o = .ref p ∧ i = .int j ∧ SqL X.K H p xs ∧ xs[j]? = some v ∧ Q v H) := by
  intro pins s σ H o i ov iv Q I ro ri h
  obtain ⟨p, xs, j, v, rfl, rfl, hq, he, q⟩ := h
  cases ro
  obtain ⟨t, rfl⟩ := ri
  obtain ⟨its, r, pl, hz⟩ := I.list hq
  obtain ⟨u, eu, ru⟩ := r.get he
  have hj : j < its.length := (List.getElem?_eq_some_iff.mp eu).1
  have hl := r.length
  have hn := line63
  exact wpAny_getItem_list pl.isList (by omega) (by omega) (by simpa using eu) ⟨v, H, I, ru, q⟩
/-- tuple * int -/
theorem op_repA : OpR X (binaryOp .Mult) (rRepA X.K) := by
  intro pins s σ H x y v u Q I rx ry h
  obtain ⟨l, k, xs, rfl, rfl, hT, hne, h2, hz, q1, q2⟩ := h
  by_cases hk2 : 2 ≤ k
  · exact op_repT pins s σ H _ _ v u Q I rx ry ⟨l, k, xs, rfl, rfl, hT, hne, by omega, by omega, hz, by simpa using q2 (by omega)⟩
  cases rx
  obtain ⟨t, rfl⟩ := ry
  obtain ⟨its, r, ⟨⟨cls, dd, data, sl⟩, ho, hc, n, hd⟩, hs⟩ := I.tuple hT
  simp only at hc hd
  subst hc hd
  have hi : its.toArray.isEmpty = false := by
    cases its with
    | nil => exact absurd (List.eq_nil_of_length_eq_zero (by simpa using r.length)) hne
    | cons a b => rfl
  refine wpAny_binaryOp_repeat_ref (T := "tuple") (U := "int") (by decide) ⟨_, ho, rfl⟩ (fun s' => typeIs_int s' k t) noFill_tuple_mul F.fills_int_mul F.slot_int_rmul repeat_tuple F.slot_int_index.lookup
    (call_meets F.slot_int_rmul (typeIs_int s k t) F.entry_int_rmul (F.args_int_rmul_2 _ _) (int_rmul_tuple k t l its.toArray n dd sl)
      ⟨ho, rfl, ⟨_, ho, rfl⟩, ?_⟩)
  obtain hk | hk : k = 0 ∨ k = 1 := by omega
  · subst hk
    refine call_meets F.slot_tuple_mul (show s.TypeIs (.ref l) "tuple" from ⟨_, ho, rfl⟩) F.entry_tuple_mul (F.args_tuple_mul_2 _ _) (tup_mul0 l its.toArray n dd sl t hi) ⟨ho, ?_⟩
    refine ⟨.ref s.heap.objs.size, _, I.laid (t' := s.toks) (o := .tup []) (fun b ob q => Heap.get?_push_of_some _ q) (Nat.le_refl _) ?_, rfl, q2 (by decide) _ (I.hok.fresh (Nat.le_refl _))⟩
    exact ⟨Nat.zero_le _, [], .nil, IsTup.new _ _⟩
  · subst hk
    exact call_meets F.slot_tuple_mul (show s.TypeIs (.ref l) "tuple" from ⟨_, ho, rfl⟩) F.entry_tuple_mul (F.args_tuple_mul_2 _ _) (tup_mul1 l its.toArray n dd sl t) ⟨ho, ⟨.ref l, H, I, rfl, q1 rfl⟩⟩
/-- sum of a tuple of ints -/
theorem call_sumT (hc : X.calm = true) : CallR X (.builtin "sum") (fun xs H Q => ∃ (a : Addr) (ns : List Int), xs = [.ref a] ∧ SqT X.K H a (ns.map V.int) ∧ Q (.int ns.sum) H) := by
  intro pins s σ H xs us Q I r h
  obtain ⟨a, ns, rfl, hT, q⟩ := h
  obtain ⟨u, rfl, rfl⟩ := vals1 r
  obtain ⟨its, rv, ht, hz⟩ := I.tuple hT
  have hi : IntsAre its ns := rv.ints
  obtain ⟨ys, e⟩ := hi.allInts.items
  have hn : numsOf (intItems ys).toList = ns := by rw [← e]; exact hi.numsOf
  rw [nums_intItems] at hn
  rw [e] at ht
  have ht' : s.heap.IsTuple a (intItems ys) := ht
  have hlt : a < s.heap.objs.size := by obtain ⟨_, z, _⟩ := ht; exact Heap.lt_size z
  refine call_sum_walkG (wpAny_pyIter_tuple ht' ?_)
  refine ⟨_, _, _, _, _, _, numAt ys, rfl, Walks.tuple (A := X.A.in1) (I.ok.hd hc) _ a (Nat.ne_of_lt hlt) (intItems ys), ⟨⟨_, Heap.get?_push_size _ rfl, rfl, rfl⟩, ht'.push _⟩, ?_, (fun _ _ => intItems_at), ?_⟩
  · intro b hb
    show b < (s.heap.push _).objs.size
    rw [Heap.size_push]
    simp only [List.mem_cons, List.not_mem_nil, or_false] at hb
    rcases hb with rfl | rfl
    · exact Nat.lt_succ_self _
    · exact Nat.lt_succ_of_lt hlt
  · intro h' tk t' hk
    have eq : preSum (numAt ys) (intItems ys).size = ns.sum := by
      rw [preSum_eq, List.take_of_length_le (by simp [intItems]), hn]
    rw [eq]
    refine ⟨.int _, H, I.kept (t' := tk) (h' := h') ?_, ⟨_, rfl⟩, q⟩
    intro b o eb
    refine hk b o (fun hm => ?_) (Heap.get?_push_of_some _ eb)
    exact absurd (Heap.lt_size eb) ((List.mem_singleton.mp hm) ▸ Nat.lt_irrefl _)
end
theorem walk_zipT {K : PySem.W.Frag} {a b : Addr} {xs ys : List V} {n : Nat} (hn : n = min xs.length ys.length) :
    Walk (RZ.ItzT K a b) n (fun H => SqT K H a xs ∧ SqT K H b ys) (YPair (fun i => xs[i]?) (fun i => ys[i]?)) := by
  subst hn
  constructor
  · rintro i H hi ⟨q1, q2⟩
    have h1 : i < xs.length := by omega
    have h2 : i < ys.length := by omega
    exact ⟨xs, ys, xs[i], ys[i], q1, q2, by simp [h1], by simp [h2]⟩
  · rintro H ⟨q1, q2⟩
    exact ⟨xs, ys, q1, q2, by omega⟩
  · rintro i H v H' _ ⟨q1, q2⟩ ⟨T, x, z, h1, h2, h3, h4, h5⟩
    exact ⟨T, x, z, h1, h2, h3, h4 xs q1, h5 ys q2⟩
end Pv

namespace Pv
open PySem PySem.Spec PyProof.Rows L2

/-! tuples never change -/
def TupK (H H' : Hp) : Prop := ∀ b xs, (H b = some (.tup xs) → H' b = some (.tup xs)) ∧ ∀ u, H b = some (.frz u (.tup xs)) → H' b = some (.frz u (.tup xs))
theorem TupK.refl (H : Hp) : TupK H H := fun _ _ => ⟨id, fun _ => id⟩
theorem TupK.trans {H H1 H2 : Hp} (a : TupK H H1) (b : TupK H1 H2) : TupK H H2 := fun c xs => ⟨fun h => (b c xs).1 ((a c xs).1 h), fun u h => (b c xs).2 u ((a c xs).2 u h)⟩
theorem TupK.rd {H H' : Hp} (s : TupK H H') {b : Addr} {xs : List V} (h : Rd H b (.tup xs)) : Rd H' b (.tup xs) := by
  rcases h with h | ⟨o, h⟩
  · exact .inl ((s _ _).1 h)
  · exact .inr ⟨o, (s _ _).2 o h⟩
theorem TupK.of {H H' : Hp} (s : Same H H') : TupK H H' := fun _ _ => ⟨fun h => s _ _ h, fun _ h => s _ _ h⟩
theorem TupK.new {H : Hp} {p : Addr} {o : HO} (np : H p = none) : TupK H (upd H p o) := .of (sameNew np)
theorem TupK.put {H : Hp} {p : Addr} {o : HO} {ys : List V} (e : H p = some (.lst ys)) : TupK H (upd H p o) := by
  intro b xs
  refine ⟨fun h => ?_, fun u h => ?_⟩
  · rw [upd_ne (ne_of h e (by intro z; cases z))]; exact h
  · rw [upd_ne (ne_of h e (by intro z; cases z))]; exact h
theorem TupK.sq {K : PySem.W.Frag} {H H' : Hp} {a : Addr} {xs : List V} (s : TupK H H') (h : SqT K H a xs) : SqT K H' a xs := by
  rcases h with h | h
  · exact .inl (s.rd h)
  · exact .inr h

mutual
def tupOnly : PyData → Bool
  | .none | .bool _ | .int _ | .str _ => true
  | .tuple xs => tupOnlyAll xs
  | .list _ | .dict _ => false
def tupOnlyAll : List PyData → Bool
  | [] => true
  | x :: xs => tupOnly x && tupOnlyAll xs
end
mutual
theorem TupK.dp {K : PySem.W.Frag} {H H' : Hp} (s : TupK H H') : ∀ (d : PyData) (v : V), tupOnly d = true → Dp K H v d → Dp K H' v d
  | .none, v, _, h => by cases h; exact .non
  | .bool b, v, _, h => by cases h; exact .bl _
  | .int b, v, _, h => by cases h; exact .int _
  | .str b, v, _, h => by cases h; exact .str _
  | .tuple xs, v, t, h => by
    cases h with
    | tup hs ha => exact .tup (s.sq hs) (TupK.dpAll s xs _ (by simpa [tupOnly] using t) ha)
  | .list _, v, t, _ => by simp [tupOnly] at t
  | .dict _, v, t, _ => by simp [tupOnly] at t
theorem TupK.dpAll {K : PySem.W.Frag} {H H' : Hp} (s : TupK H H') : ∀ (ds : List PyData) (vs : List V), tupOnlyAll ds = true → DpAll K H vs ds → DpAll K H' vs ds
  | [], vs, _, h => by cases h; exact .nil
  | d :: ds, vs, t, h => by
    have t' : tupOnly d = true ∧ tupOnlyAll ds = true := by simpa [tupOnlyAll] using t
    cases h with
    | cons h1 h2 => exact .cons (TupK.dp s d _ t'.1 h1) (TupK.dpAll s ds _ t'.2 h2)
end
theorem tupOnlyAll_of {ds : List PyData} (h : ∀ d ∈ ds, tupOnly d = true) : tupOnlyAll ds = true := by
  induction ds with
  | nil => simp [tupOnlyAll]
  | cons d ds ih => simp [tupOnlyAll, h d (by simp), ih (fun e he => h e (by simp [he]))]

/-! data -/
abbrev Gp := List Int × Int
def dI (ns : List Int) : PyData := .tuple (ns.map .int)
def dGrp (g : Gp) : PyData := .tuple [dI g.1, .int g.2]
def dInst (cs : List Int) (gs : List Gp) : PyData := .tuple [dI cs, .tuple (gs.map dGrp)]
def dAsg (rows : List (List Int)) : PyData := .tuple (rows.map dI)
theorem to_ints (ns : List Int) : tupOnlyAll (ns.map PyData.int) = true := tupOnlyAll_of (by intro d hd; obtain ⟨n, _, rfl⟩ := List.mem_map.mp hd; simp [tupOnly])
theorem to_dI (ns : List Int) : tupOnly (dI ns) = true := by simp [dI, tupOnly, to_ints]
theorem to_dGrp (g : Gp) : tupOnly (dGrp g) = true := by simp [dGrp, tupOnly, tupOnlyAll, to_dI]
theorem to_grps (gs : List Gp) : tupOnlyAll (gs.map dGrp) = true := tupOnlyAll_of (by intro d hd; obtain ⟨n, _, rfl⟩ := List.mem_map.mp hd; exact to_dGrp n)
theorem to_rows (rs : List (List Int)) : tupOnlyAll (rs.map dI) = true := tupOnlyAll_of (by intro d hd; obtain ⟨n, _, rfl⟩ := List.mem_map.mp hd; exact to_dI n)
theorem to_dInst (cs : List Int) (gs : List Gp) : tupOnly (dInst cs gs) = true := by simp [dInst, tupOnly, tupOnlyAll, to_dI, to_grps]
theorem to_dAsg (rs : List (List Int)) : tupOnly (dAsg rs) = true := by simp [dAsg, tupOnly, to_rows]

section
variable {K : PySem.W.Frag} {H : Hp}
theorem DpAll.len : ∀ {vs : List V} {ds : List PyData}, DpAll K H vs ds → vs.length = ds.length
  | _, _, .nil => rfl
  | _, _, .cons _ t => by simp [DpAll.len t]
theorem DpAll.ints : ∀ {ns : List Int} {vs : List V}, DpAll K H vs (ns.map PyData.int) → vs = ns.map V.int
  | [], _, h => by cases h; rfl
  | n :: ns, _, h => by
    cases h with
    | cons h1 h2 => cases h1; rw [DpAll.ints h2]; rfl
theorem dp_ints : ∀ (ns : List Int), DpAll K H (ns.map V.int) (ns.map PyData.int)
  | [] => .nil
  | n :: ns => .cons (.int n) (dp_ints ns)
theorem DpAll.at : ∀ {vs : List V} {ds : List PyData} {i : Nat} {v : V}, DpAll K H vs ds → vs[i]? = some v → ∃ d, ds[i]? = some d ∧ Dp K H v d
  | _, _, _, _, .nil, e => by simp at e
  | _, _, 0, _, .cons h _, e => by simp at e; subst e; exact ⟨_, rfl, h⟩
  | _, _, i + 1, v, .cons _ t, e => by
    obtain ⟨d, h1, h2⟩ := DpAll.at (i := i) t (by simpa using e)
    exact ⟨d, by simpa using h1, h2⟩
theorem DpAll.snoc : ∀ {vs : List V} {ds : List PyData} {v : V} {d : PyData}, DpAll K H vs ds → Dp K H v d → DpAll K H (vs ++ [v]) (ds ++ [d])
  | _, _, _, _, .nil, h => .cons h .nil
  | _, _, _, _, .cons h t, h' => .cons h (DpAll.snoc t h')
theorem sq_dI {a : Addr} {ns : List Int} (h : Dp K H (.ref a) (dI ns)) : SqT K H a (ns.map V.int) := by
  cases h with
  | tup hs ha => rw [DpAll.ints ha] at hs; exact hs
theorem dI_sq {a : Addr} {ns : List Int} (h : SqT K H a (ns.map V.int)) : Dp K H (.ref a) (dI ns) := .tup h (dp_ints ns)
theorem dI_ref {v : V} {ns : List Int} (h : Dp K H v (dI ns)) : ∃ a, v = .ref a ∧ SqT K H a (ns.map V.int) := by
  cases h with
  | tup hs ha => rw [DpAll.ints ha] at hs; exact ⟨_, rfl, hs⟩
theorem grp_ref {v : V} {g : Gp} (h : Dp K H v (dGrp g)) : ∃ a p, v = .ref a ∧ SqT K H a [.ref p, .int g.2] ∧ SqT K H p (g.1.map V.int) := by
  cases h with
  | tup hs ha =>
    cases ha with
    | cons h1 h2 =>
      cases h2 with
      | cons h3 h4 =>
        cases h4
        cases h3
        obtain ⟨p, rfl, hp⟩ := dI_ref h1
        exact ⟨_, p, rfl, hs, hp⟩
theorem inst_open {v : V} {cs : List Int} {gs : List Gp} (h : Dp K H v (dInst cs gs)) :
    ∃ a c g xs, v = .ref a ∧ SqT K H a [.ref c, .ref g] ∧ SqT K H c (cs.map V.int) ∧ SqT K H g xs ∧ DpAll K H xs (gs.map dGrp) := by
  cases h with
  | tup hs ha =>
    cases ha with
    | cons h1 h2 =>
      cases h2 with
      | cons h3 h4 =>
        cases h4
        obtain ⟨c, rfl, hc⟩ := dI_ref h1
        cases h3 with
        | tup hg hx => exact ⟨_, c, _, _, rfl, hs, hc, hg, hx⟩
theorem asg_open {v : V} {rs : List (List Int)} (h : Dp K H v (dAsg rs)) : ∃ a xs, v = .ref a ∧ SqT K H a xs ∧ DpAll K H xs (rs.map dI) := by
  cases h with
  | tup hg hx => exact ⟨_, _, rfl, hg, hx⟩
end

/-! what repr wants of data -/
structure Fine (k B : Nat) (d : PyData) : Prop where
  sh : d.showable = true
  nd : d.hasDict = false
  dp : d.depth ≤ k
  ln : d.shown.length ≤ B
theorem Fine.mono {k k' B B' : Nat} {d : PyData} (h : Fine k B d) (hk : k ≤ k') (hB : B ≤ B') : Fine k' B' d := ⟨h.sh, h.nd, Nat.le_trans h.dp hk, Nat.le_trans h.ln hB⟩
theorem fine_int {i : Int} (h : i.natAbs < 10 ^ 20) : Fine 0 25 (.int i) := by
  refine ⟨?_, by simp [PyData.hasDict], by simp [PyData.depth], ?_⟩
  · simp only [PyData.showable, decide_eq_true_eq]
    have : i.natAbs.log2 < 100 := by
      by_cases h0 : i.natAbs = 0
      · rw [h0]; decide
      · exact (Nat.log2_lt h0).mpr (Nat.lt_trans h (by decide))
    omega
  · have e := int_text_length_le10 (k := 20) (by decide) h
    show (Str.ofString (toString i)).length ≤ 25
    rw [PySem.ofString_length]
    omega
theorem fine_all {k B : Nat} : ∀ {xs : List PyData}, (∀ x ∈ xs, Fine k B x) → PyData.showableAll xs = true ∧ PyData.hasDictAll xs = false ∧ PyData.depthAll xs ≤ k ∧ ((PyData.shownAll xs).map (·.length)).sum ≤ xs.length * B ∧ (PyData.shownAll xs).length = xs.length
  | [], _ => by simp [PyData.showableAll, PyData.hasDictAll, PyData.depthAll, PyData.shownAll]
  | x :: xs, h => by
    obtain ⟨h1, h2, h3, h4, h5⟩ := fine_all (xs := xs) (fun y hy => h y (by simp [hy]))
    have hx := h x (by simp)
    refine ⟨by simp [PyData.showableAll, hx.sh, h1], by simp [PyData.hasDictAll, hx.nd, h2], ?_, ?_, ?_⟩
    · simp only [PyData.depthAll]; have := hx.dp; omega
    · simp only [PyData.shownAll, List.map_cons, List.sum_cons, List.length_cons]; have := hx.ln; rw [Nat.succ_mul]; omega
    · simp [PyData.shownAll, h5]
theorem fine_tup {k B n : Nat} {xs : List PyData} (h : ∀ x ∈ xs, Fine k B x) (hn : xs.length ≤ n) : Fine (k + 1) (n * (B + 2) + 3) (.tuple xs) := by
  obtain ⟨h1, h2, h3, h4, h5⟩ := fine_all h
  refine ⟨by simp only [PyData.showable]; exact h1, by simp only [PyData.hasDict]; exact h2, by simp only [PyData.depth]; omega, ?_⟩
  simp only [PyData.shown]
  have e := tupleText_len_le (PyData.shownAll xs)
  rw [h5] at e
  have m : xs.length * (B + 2) ≤ n * (B + 2) := Nat.mul_le_mul_right _ hn
  rw [Nat.mul_add] at m
  omega
theorem fine_lst {k B n : Nat} {xs : List PyData} (h : ∀ x ∈ xs, Fine k B x) (hn : xs.length ≤ n) : Fine (k + 1) (n * (B + 2) + 3) (.list xs) := by
  obtain ⟨h1, h2, h3, h4, h5⟩ := fine_all h
  refine ⟨by simp only [PyData.showable]; exact h1, by simp only [PyData.hasDict]; exact h2, by simp only [PyData.depth]; omega, ?_⟩
  simp only [PyData.shown]
  have e := listText_len_le (PyData.shownAll xs)
  rw [h5] at e
  have m : xs.length * (B + 2) ≤ n * (B + 2) := Nat.mul_le_mul_right _ hn
  rw [Nat.mul_add] at m
  omega
theorem fine_dI {ns : List Int} {n : Nat} (h : ∀ i ∈ ns, i.natAbs < 10 ^ 20) (hn : ns.length ≤ n) : Fine 1 (n * 27 + 3) (dI ns) := by
  refine fine_tup (B := 25) ?_ (by simpa using hn)
  intro d hd
  obtain ⟨i, hi, rfl⟩ := List.mem_map.mp hd
  exact fine_int (h i hi)

/-! the drawing state of the law: a list of the cells, the rests and the turn -/
structure DS (H : Hp) (st c r : Addr) (t : Nat) : Prop where
  hs : H st = some (.lst [.ref c, .ref r, .int t])
  ex : ∃ cells rests : List Int, H c = some (.lst (cells.map V.int)) ∧ H r = some (.lst (rests.map V.int)) ∧ cells.length = rests.length ∧
    0 < cells.length ∧ cells.length ≤ 100 ∧ ∀ x ∈ rests, 0 ≤ x
  n1 : c ≠ r
  n2 : st ≠ c
  n3 : st ≠ r
def Ext (st r : Addr) (H H' : Hp) : Prop := ∀ b o, H b = some o → b ≠ st → b ≠ r → H' b = some o
section
variable {H H1 H2 : Hp} {st c r p : Addr} {t : Nat} {o : HO}
theorem Ext.trans (a : Ext st r H H1) (b : Ext st r H1 H2) : Ext st r H H2 := fun x o h n1 n2 => b x o (a x o h n1 n2) n1 n2
theorem Ext.of (s : Same H H1) : Ext st r H H1 := fun b o h _ _ => s b o h
theorem Ext.tup (d : DS H st c r t) (e : Ext st r H H1) : TupK H H1 := by
  obtain ⟨cells, rests, hc, hr, _⟩ := d.ex
  intro b xs
  refine ⟨fun h => ?_, fun u h => ?_⟩
  · exact e _ _ h (ne_of h d.hs (by intro z; cases z)) (ne_of h hr (by intro z; cases z))
  · exact e _ _ h (ne_of h d.hs (by intro z; cases z)) (ne_of h hr (by intro z; cases z))
theorem DS.same (d : DS H st c r t) (s : Same H H1) : DS H1 st c r t := by
  obtain ⟨cells, rests, hc, hr, q⟩ := d.ex
  exact ⟨s _ _ d.hs, ⟨cells, rests, s _ _ hc, s _ _ hr, q⟩, d.n1, d.n2, d.n3⟩
theorem DS.new (d : DS H st c r t) (np : H p = none) : DS (upd H p o) st c r t := d.same (sameNew np)
theorem DS.put (d : DS H st c r t) (h1 : p ≠ st) (h2 : p ≠ c) (h3 : p ≠ r) : DS (upd H p o) st c r t := by
  obtain ⟨cells, rests, hc, hr, q⟩ := d.ex
  exact ⟨by rw [upd_ne h1.symm]; exact d.hs, ⟨cells, rests, by rw [upd_ne h2.symm]; exact hc, by rw [upd_ne h3.symm]; exact hr, q⟩, d.n1, d.n2, d.n3⟩
/-- an address that was free while the state stood is none of its own -/
theorem DS.off (d : DS H st c r t) (np : H p = none) : p ≠ st ∧ p ≠ c ∧ p ≠ r := by
  obtain ⟨cells, rests, hc, hr, q⟩ := d.ex
  exact ⟨(ne_of_none d.hs np).symm, (ne_of_none hc np).symm, (ne_of_none hr np).symm⟩
end
end Pv

namespace Pv
open PySem PySem.Spec PyProof.Rows L2
/-! enumerate of a tuple -/
theorem enumT_new (l : Addr) (items : Array Value) (n : Nat) (dct : Option Addr) (sl : Array (Option Value)) :
    Meets (Builtin.«enumerate.__new__» ⟨[.type "enumerate", .ref l], []⟩) (fun _ R s =>
      s.heap.get? l = some { cls := .type "tuple", dict := dct, data := .seq items n, slots := sl } ∧
      R (.ok (.ret (.ref (s.heap.push { cls := .type "tuple_iterator", data := .fields #[.ref l, .int 0 0] }).objs.size)))
        { s with heap := Heap.push (s.heap.push { cls := .type "tuple_iterator", data := .fields #[.ref l, .int 0 0] }) { cls := .type "enumerate", data := .fields #[.none, .bool false, .ref s.heap.objs.size, rawInt 0, .none, .none] } }) :=
  .of_wp fun prog w A R s h => by
    obtain ⟨hp, g, d, tk, os⟩ := s
    obtain ⟨hl, h⟩ := h
    have hsub := sub_enumerate
    have hL : Heap.IsTuple (Shared.heap ⟨hp, g, d, tk, os⟩) l items := ⟨_, hl, rfl, n, rfl⟩
    wp_walk using AutoSeq1.wpAny_loadPart' hl
    refine wpAny_stack_any fun st => wpAny_pure ?_
    split
    · rename_i c _ _ _ _ _
      cases (c == Value.type "enumerate") <;>
        (wp_walk using AutoSeq1.wpAny_loadPart' hl, wpAny_pyIter_tuple hL; exact ⟨_, rfl, h⟩)
    · wp_walk using AutoSeq1.wpAny_loadPart' hl, wpAny_pyIter_tuple hL
      exact ⟨_, rfl, h⟩
theorem call_enumT {prog : Program} {w : World} {A : Around} {E : Value → Shared → Prop} {s : Shared} {l : Addr} {items : Array Value} {Q : Value → Shared → Prop} (hL : s.heap.IsTuple l items)
    (h : ∀ h', IsEnum h' (s.heap.objs.size + 1) s.heap.objs.size 0 .none → h'.IsTupleIter s.heap.objs.size l 0 →
      (∀ b o, s.heap.get? b = some o → h'.get? b = some o) → Q (.ref (s.heap.objs.size + 1)) { s with heap := h' }) :
    wpAny (model prog w) A (call (.type "enumerate") [.ref l]) Q E s := by
  obtain ⟨⟨c, dct, dt, sl⟩, hl, hc, n, hd⟩ := hL
  simp only at hc hd
  subst hc hd
  refine callType_new F.called_enumerate (by decide) (F.typeCall_enumerate_1 _) (F.newCall_enumerate_1 _) (fun obj => F.args_object_init_2 obj _) F.entry_enumerate_new (enumT_new l items n dct sl) ⟨hl, ?_⟩
  have hz : (s.heap.push { cls := .type "tuple_iterator", data := .fields #[.ref l, .int 0 0] }).objs.size = s.heap.objs.size + 1 := Heap.size_push ..
  show _ ∧ _
  rw [hz]
  have ge : IsEnum (Heap.push (s.heap.push { cls := .type "tuple_iterator", data := .fields #[.ref l, .int 0 0] }) { cls := .type "enumerate", data := .fields #[.none, .bool false, .ref s.heap.objs.size, rawInt 0, .none, .none] }) (s.heap.objs.size + 1) s.heap.objs.size 0 .none := by
    rw [← hz]
    exact Heap.get?_push_size _ rfl
  exact ⟨⟨_, ge, rfl⟩, h _ ge ⟨_, Heap.get?_push_of_some _ (Heap.get?_push_size _ rfl), rfl, rfl⟩ fun b o x => Heap.get?_push_of_some _ (Heap.get?_push_of_some _ x)⟩
def IteT (K : PySem.W.Frag) (a : Addr) : It :=
  ⟨fun i H => ∃ (xs : List V) (x : V), SqT K H a xs ∧ xs[i]? = some x,
   fun i H v H' => ∃ T x, v = .ref T ∧ H T = none ∧ H' = upd H T (.tup [.int (i : Nat), x]) ∧ ∀ xs, SqT K H a xs → xs[i]? = some x,
   fun i H => ∃ xs : List V, SqT K H a xs ∧ xs.length = i⟩
theorem tupLt {h : Heap} {a : Addr} {its : Array Value} (p : IsTup h a its) : a < h.objs.size := by obtain ⟨_, e, _⟩ := p; exact Heap.lt_size e
theorem turn_enumT {P : Program} {w : World} {K : PySem.W.Frag} {elts : List Expr} {kk : Nat} {tpos : Pos} (a e it : Addr) :
    Turn P w K (.Tuple elts kk tpos) (IteT K a) [e, it] e (fun i h => (∃ old, IsEnum h e it ((i : Nat) : Int) old) ∧ h.IsTupleIter it a i ∧ e ≠ it) where
  mem := by simp
  obj := by
    rintro i h ⟨⟨old, he⟩, ⟨o, ho, hc, hd⟩, _⟩ b hb
    simp only [List.mem_cons, List.not_mem_nil, or_false] at hb
    rcases hb with rfl | rfl
    · exact ⟨_, he, fun v q => nomatch q⟩
    · exact ⟨o, ho, fun v q => by rw [hd] at q; cases q⟩
  keep := by
    rintro i h h' ⟨⟨old, he⟩, hi, hne⟩ k
    exact ⟨⟨old, k e (by simp) _ he⟩, hi.at fun o q => k it (by simp) o q, hne⟩
  item := by
    intro X hP hw hK hc i pins s σ H E I hf st hg
    subst hP hw hK
    obtain ⟨⟨old, he⟩, hit, hne⟩ := st
    obtain ⟨xs, x, hq, hx⟩ := hg
    obtain ⟨its, rv, p, hz⟩ := I.tuple hq
    obtain ⟨u, hu, ru⟩ := rv.get hx
    have hel : e < s.heap.objs.size := Heap.lt_size he
    have hil : it < s.heap.objs.size := by obtain ⟨_, q, _⟩ := hit; exact Heap.lt_size q
    have nea : e ≠ a := by
      rintro rfl
      obtain ⟨o, ho, hcl, _⟩ := p
      rw [he] at ho
      cases ho
      injection hcl with hcl
      exact absurd hcl (by decide)
    have nia : a ≠ it := by
      rintro rfl
      obtain ⟨o, ho, hcl, _⟩ := p
      obtain ⟨o2, ho2, hcl2, _⟩ := hit
      rw [ho] at ho2
      cases ho2
      rw [hcl] at hcl2
      injection hcl2 with hcl2
      exact absurd hcl2 (by decide)
    have hlt : i < its.toArray.size := by have := (List.getElem?_eq_some_iff.mp hu).1; simpa using this
    refine wpAny_pyNext_enum_itemD (Draws.tuple (A := X.A.in1) (I.ok.hd hc) it a nia its.toArray) he ⟨hit, p⟩ hlt hne (by simp [hne, nea]) ?_
    intro u' h' tk hu' ho st' hT hsz hk
    have hu2 : its.toArray[i]? = some u' := hu'
    have : u' = u := by
      have h3 : its.toArray[i]? = some u := by simpa using hu
      rw [h3] at hu2
      exact (Option.some.inj hu2).symm
    subst this
    refine ⟨_, rfl, wpAny_letOwnedTupleGo_enum (s := { s with heap := h', toks := tk + 1 }) ho fun h'' he' sb => ?_⟩
    have hT2 : h''.get? s.heap.objs.size = some { cls := .type "tuple", data := .seq #[.int i tk, u'] } := (sb.2 _ (Nat.ne_of_gt hel)).trans hT
    have new : ObjOk X.prog X.w (upd H s.heap.objs.size (.tup [.int (i : Nat), x])) h'' s.heap.objs.size (.tup [.int (i : Nat), x]) :=
      ⟨by show 2 ≤ sizeLine; decide, [.int i tk, u'], .cons ⟨_, rfl⟩ (.cons ru .nil), ⟨_, hT2, rfl, _, rfl⟩⟩
    have kk : ∀ b ob, b ∉ [e, it] → s.heap.get? b = some ob → h''.get? b = some ob := by
      intro b ob hb q
      have h1 : b ≠ e := fun z => hb (by simp [z])
      have h2 : b ≠ it := fun z => hb (by simp [z])
      exact (sb.2 b h1).trans (hk b ob h1 h2 q)
    have I1 : Inv X pins σ (upd H s.heap.objs.size (.tup [.int (i : Nat), x])) { s with heap := h'', toks := tk + 1 } :=
      I.turnedNew (ch := [e, it]) kk hf (Nat.le_refl _) new
    refine ⟨.ref s.heap.objs.size, _, I1, rfl, ⟨_, x, rfl, I.hok.fresh (Nat.le_refl _), rfl, fun ys hy => by rw [I.tuple_inj hy hq]; exact hx⟩, ⟨⟨u', ?_⟩, st'.1.at fun o q => (sb.2 it (Ne.symm hne)).trans q, hne⟩, fun b hb => ?_⟩
    · rw [show ((i + 1 : Nat) : Int) = (i : Int) + 1 by omega]; exact he'
    · have hb' : b < s.heap.objs.size := by
        simp only [List.mem_cons, List.not_mem_nil, or_false] at hb
        rcases hb with rfl | rfl <;> assumption
      rw [upd_ne (Nat.ne_of_lt hb')]
      exact (hf b hb).1
  done := by
    intro X hP hw hK hc i pins s σ H E I hf st hg
    subst hP hw hK
    obtain ⟨⟨old, he⟩, hit, hne⟩ := st
    obtain ⟨xs, hq, hx⟩ := hg
    obtain ⟨its, rv, p, hz⟩ := I.tuple hq
    obtain ⟨f0, f1, f2, f3, f4, f5⟩ := hf it (by simp)
    have hl := rv.length
    have nia : a ≠ it := by
      rintro rfl
      obtain ⟨o, ho, hcl, _⟩ := p
      obtain ⟨o2, ho2, hcl2, _⟩ := hit
      rw [ho] at ho2
      cases ho2
      rw [hcl] at hcl2
      injection hcl2 with hcl2
      exact absurd hcl2 (by decide)
    have hi : i = its.toArray.size := by rw [List.size_toArray]; omega
    refine wpAny_pyNext_enum_endD (Draws.tuple (A := X.A.in1) (I.ok.hd hc) it a nia its.toArray) he (by rw [← hi]; exact ⟨hit, p⟩) fun h' eb => ⟨rfl, I.turned (t' := s.toks) (fun b o hb q => eb b o hb q) f0 f1 f3 f4 f5⟩
  self := by
    rintro A i s Q E ⟨⟨_, he⟩, _⟩ h
    exact wpAny_pyIter_enum he h
def iEnumT (K : PySem.W.Frag) (ta : TA) : TI := fun σ H R => ta σ H fun vs H1 => ∃ a xs, vs = [.ref a] ∧ SqT K H1 a xs ∧ R (IteT K a) H1
theorem pi_enumT {X : Cx} {e : Expr} {ta : TA} {p pos tpos : Pos} {elts : List Expr} {kk : Nat} (hg : Gl X "enumerate") (hm : X.mg "enumerate" = none) (ha : PA X [e] ta)
    (hs : starEach [e] X.env = [(false, eval e X.env)] := by rfl) : PI X (.Tuple elts kk tpos) (.Call (.Name "enumerate" p) [e] [] pos) (iEnumT X.K ta) := by
  constructor
  intro pins s σ H R I h
  refine Call_ (ld_blt I hg hm boot_enumerate (PyProof.Rows.callWith_type1 (thn (ha.run pos pins s σ H _ I h) ?_) hs rfl))
  rintro us s1 ⟨vs, H1, I1, r1, a, xs, rfl, hq, q⟩
  obtain ⟨u, rfl, rfl⟩ := vals1 r1
  obtain ⟨its, rv, p', hz⟩ := I1.tuple hq
  refine call_enumT (show s1.heap.IsTuple a its.toArray from p') fun h' he hit hk => wpAny_pyIter_enum he ?_
  have I2 : Inv X pins σ H1 { s1 with heap := h' } := I1.kept (t' := s1.toks) hk
  refine ⟨s1.heap.objs.size + 1, [s1.heap.objs.size + 1, s1.heap.objs.size], _, _, H1, rfl, I2, turn_enumT a (s1.heap.objs.size + 1) s1.heap.objs.size, ⟨⟨.none, he⟩, hit, Nat.succ_ne_self _⟩, ?_, q⟩
  intro b hb
  have hle : s1.heap.objs.size ≤ b := by
    simp only [List.mem_cons, List.not_mem_nil, or_false] at hb
    rcases hb with rfl | rfl <;> omega
  exact I1.fpOk hle (I1.hok.fresh hle)
theorem walk_enumT {K : PySem.W.Frag} {a : Addr} {xs : List V} : Walk (IteT K a) xs.length (fun H => SqT K H a xs) (YPair (fun i => some (.int (i : Nat))) (fun i => xs[i]?)) := by
  constructor
  · intro i H hi q
    exact ⟨xs, xs[i], q, by simp [hi]⟩
  · intro H q
    exact ⟨xs, q, rfl⟩
  · rintro i H v H' _ q ⟨T, x, h1, h2, h3, h4⟩
    exact ⟨T, _, x, h1, h2, h3, rfl, h4 xs q⟩
/-! zip of a list and a tuple -/
abbrev zm1 (h : Heap) (l1 : Addr) : Heap := h.push { cls := .type "list_iterator", data := .fields #[.ref l1, .int 0 0] }
abbrev zm2 (h : Heap) (l1 l2 : Addr) : Heap := (zm1 h l1).push { cls := .type "tuple_iterator", data := .fields #[.ref l2, .int 0 0] }
abbrev zm3 (h : Heap) (l1 l2 : Addr) : Heap := (zm2 h l1 l2).push { cls := .type "tuple", data := .seq #[.ref h.objs.size, .ref (zm1 h l1).objs.size] }
abbrev zm4 (h : Heap) (l1 l2 : Addr) : Heap := (zm3 h l1 l2).push { cls := .type "tuple", data := .seq #[.none, .none] }
abbrev zm5 (h : Heap) (l1 l2 : Addr) : Heap := (zm4 h l1 l2).push { cls := .type "zip", data := .fields #[.none, .bool false, .bool false, .ref (zm2 h l1 l2).objs.size, .ref (zm3 h l1 l2).objs.size] }
theorem zipM_new (l1 l2 : Addr) (xs ys : Array Value) :
    Meets (Builtin.«zip.__new__» ⟨[.type "zip", .ref l1, .ref l2], []⟩) (fun _ R s => s.heap.IsList l1 xs ∧ s.heap.IsTuple l2 ys ∧
      R (.ok (.ret (.ref (zm4 s.heap l1 l2).objs.size))) { s with heap := zm5 s.heap l1 l2 }) :=
  .of_wp fun prog w A R s h => by
    obtain ⟨hp, g, d, tk, os⟩ := s
    obtain ⟨hl1, hl2, h⟩ := h
    have hsub := sub_zip
    have hL1 : Heap.IsList (Shared.heap ⟨hp, g, d, tk, os⟩) l1 xs := hl1
    have hL2 : Heap.IsTuple (Shared.heap ⟨zm1 hp l1, g, d, tk, os⟩) l2 ys := Heap.IsTuple.push hl2 _
    wp_walk using wpAny_pyIter_list hL1, wpAny_pyIter_tuple hL2
    exact ⟨_, rfl, h⟩
theorem call_zipM {prog : Program} {w : World} {A : Around} {E : Value → Shared → Prop} {s : Shared} {l1 l2 : Addr} {xs ys : Array Value} {Q : Value → Shared → Prop} (hl1 : s.heap.IsList l1 xs) (hl2 : s.heap.IsTuple l2 ys)
    (h : ∀ h', IsZip h' (s.heap.objs.size + 4) (s.heap.objs.size + 2) (s.heap.objs.size + 3) .none → IsPair h' (s.heap.objs.size + 2) (.ref s.heap.objs.size) (.ref (s.heap.objs.size + 1)) →
      IsPair h' (s.heap.objs.size + 3) .none .none → h'.IsListIter s.heap.objs.size l1 0 → h'.IsTupleIter (s.heap.objs.size + 1) l2 0 →
      (∀ c o, s.heap.get? c = some o → h'.get? c = some o) → Q (.ref (s.heap.objs.size + 4)) { s with heap := h' }) :
    wpAny (model prog w) A (call (.type "zip") [.ref l1, .ref l2]) Q E s := by
  refine callType_new F.called_zip (by decide) (F.typeCall_zip_2 _ _) (F.newCall_zip_2 _ _) (fun obj => F.args_object_init_3 obj _ _) F.entry_zip_new (zipM_new l1 l2 xs ys) ⟨hl1, hl2, ?_⟩
  have z1 : (zm1 s.heap l1).objs.size = s.heap.objs.size + 1 := Heap.size_push ..
  have z2 : (zm2 s.heap l1 l2).objs.size = s.heap.objs.size + 2 := by rw [Heap.size_push, z1]
  have z3 : (zm3 s.heap l1 l2).objs.size = s.heap.objs.size + 3 := by rw [Heap.size_push, z2]
  have z4 : (zm4 s.heap l1 l2).objs.size = s.heap.objs.size + 4 := by rw [Heap.size_push, z3]
  have g5 : (zm5 s.heap l1 l2).get? (zm4 s.heap l1 l2).objs.size = some _ := Heap.get?_push_size _ rfl
  have g4 : (zm5 s.heap l1 l2).get? (zm3 s.heap l1 l2).objs.size = some _ := Heap.get?_push_of_some _ (Heap.get?_push_size _ rfl)
  have g3 : (zm5 s.heap l1 l2).get? (zm2 s.heap l1 l2).objs.size = some _ := Heap.get?_push_of_some _ (Heap.get?_push_of_some _ (Heap.get?_push_size _ rfl))
  have g2 : (zm5 s.heap l1 l2).get? (zm1 s.heap l1).objs.size = some _ := Heap.get?_push_of_some _ (Heap.get?_push_of_some _ (Heap.get?_push_of_some _ (Heap.get?_push_size _ rfl)))
  have g1 : (zm5 s.heap l1 l2).get? s.heap.objs.size = some _ := Heap.get?_push_of_some _ (Heap.get?_push_of_some _ (Heap.get?_push_of_some _ (Heap.get?_push_of_some _ (Heap.get?_push_size _ rfl))))
  show _ ∧ _
  rw [z2, z3, z4] at g5
  rw [z1, z2] at g3
  rw [z3] at g4
  rw [z1] at g2
  rw [z4]
  refine ⟨⟨_, g5, rfl⟩, h _ g5 g3 g4 ⟨_, g1, rfl, rfl⟩ ⟨_, g2, rfl, rfl⟩ ?_⟩
  intro c o x
  exact Heap.get?_push_of_some _ (Heap.get?_push_of_some _ (Heap.get?_push_of_some _ (Heap.get?_push_of_some _ (Heap.get?_push_of_some _ x))))
def ItzM (K : PySem.W.Frag) (a b : Addr) : It :=
  ⟨fun i H => ∃ (xs ys : List V) (x y : V), SqL K H a xs ∧ SqT K H b ys ∧ xs[i]? = some x ∧ ys[i]? = some y,
   fun i H v H' => ∃ T x y, v = .ref T ∧ H T = none ∧ H' = upd H T (.tup [x, y]) ∧ (∀ xs, SqL K H a xs → xs[i]? = some x) ∧ ∀ ys, SqT K H b ys → ys[i]? = some y,
   fun i H => ∃ xs ys : List V, SqL K H a xs ∧ SqT K H b ys ∧ min xs.length ys.length = i⟩
theorem sepM {z TI TO i1 i2 a b : Addr} (D : ZipApart z TI TO i1 i2 a b) : ZipSep2 z TI TO i1 i2 [i1, a] [i2, b] := by
  refine ⟨D.TIz, D.TOz, D.TITO, D.TIi1, by simp, ?_, ?_, D.TIi2, by simp, ?_, ?_, ?_, ?_⟩ <;>
    simp only [List.mem_cons, List.not_mem_nil, or_false, not_or]
  · exact ⟨D.i1z.symm, D.l1z.symm⟩
  · exact ⟨D.TOi1, D.l1TO.symm⟩
  · exact ⟨D.i2z.symm, D.l2z.symm⟩
  · exact ⟨D.TOi2, D.l2TO.symm⟩
  · exact ⟨D.i12, D.l2i1.symm⟩
  · exact ⟨D.i12.symm, D.l1i2.symm⟩
theorem turn_zipM {P : Program} {w : World} {K : PySem.W.Frag} {elts : List Expr} {kk : Nat} {tpos : Pos} {a b z TI TO i1 i2 : Addr} (D : ZipApart z TI TO i1 i2 a b) :
    Turn P w K (.Tuple elts kk tpos) (ItzM K a b) [z, TI, TO, i1, i2] z
      (fun i h => IsZip h z TI TO .none ∧ IsPair h TI (.ref i1) (.ref i2) ∧ (∃ x y, IsPair h TO x y) ∧ h.IsListIter i1 a i ∧ h.IsTupleIter i2 b i) where
  mem := by simp
  obj := by
    rintro i h ⟨hz, hTI, ⟨x, y, hTO⟩, ⟨o1, e1, _, d1⟩, ⟨o2, e2, _, d2⟩⟩ c hc
    simp only [List.mem_cons, List.not_mem_nil, or_false] at hc
    rcases hc with rfl | rfl | rfl | rfl | rfl
    · exact ⟨_, hz, fun v q => nomatch q⟩
    · exact ⟨_, hTI, fun v q => nomatch q⟩
    · exact ⟨_, hTO, fun v q => nomatch q⟩
    · exact ⟨o1, e1, fun v q => by rw [d1] at q; cases q⟩
    · exact ⟨o2, e2, fun v q => by rw [d2] at q; cases q⟩
  keep := by
    rintro i h h' ⟨hz, hTI, ⟨x, y, hTO⟩, h1, h2⟩ k
    exact ⟨k z (by simp) _ hz, k TI (by simp) _ hTI, ⟨x, y, k TO (by simp) _ hTO⟩, h1.at fun o q => k i1 (by simp) o q, h2.at fun o q => k i2 (by simp) o q⟩
  item := by
    intro X hP hw hK hc i pins s σ H E I hf st hg
    subst hP hw hK
    obtain ⟨hz, hTI, ⟨x0, y0, hTO⟩, h1, h2⟩ := st
    obtain ⟨xs, ys, x, y, hqx, hqy, hx, hy⟩ := hg
    obtain ⟨its, rv, p, _⟩ := I.list hqx
    obtain ⟨its2, rv2, p2, _⟩ := I.tuple hqy
    obtain ⟨u, hu, ru⟩ := rv.get hx
    obtain ⟨u2, hu2, ru2⟩ := rv2.get hy
    have hzl : z < s.heap.objs.size := Heap.lt_size hz
    have hl1 : i < its.toArray.size := by have := (List.getElem?_eq_some_iff.mp hu).1; simpa using this
    have hl2 : i < its2.toArray.size := by have := (List.getElem?_eq_some_iff.mp hu2).1; simpa using this
    refine wpAny_pyNext_zipD2_item (sepM D) (Draws.list (A := X.A.in1) (I.ok.hd hc) i1 a D.l1i1 its.toArray) (Draws.tuple (A := X.A.in1) (I.ok.hd hc) i2 b D.l2i2 its2.toArray) hz hTI hTO ⟨h1, p.isList⟩ ⟨h2, p2⟩ hl1 hl2 ?_
    intro v1 v2 h' tk hv1 hv2 z' TO' st1 st2 hT hsz hk
    have e1 : v1 = u := by
      have h3 : its.toArray[i]? = some u := by simpa using hu
      rw [show its.toArray[i]? = some v1 from hv1] at h3
      exact Option.some.inj h3
    have e2 : v2 = u2 := by
      have h3 : its2.toArray[i]? = some u2 := by simpa using hu2
      rw [show its2.toArray[i]? = some v2 from hv2] at h3
      exact Option.some.inj h3
    subst e1 e2
    refine ⟨_, rfl, wpAny_letOwnedTupleGo_zip (s := { s with heap := h', toks := tk }) z' fun h'' z'' sb => ?_⟩
    have hT2 : h''.get? s.heap.objs.size = some { cls := .type "tuple", data := .seq #[v1, v2] } := (sb.2 _ (Nat.ne_of_gt hzl)).trans hT
    have new : ObjOk X.prog X.w (upd H s.heap.objs.size (.tup [x, y])) h'' s.heap.objs.size (.tup [x, y]) :=
      ⟨by show 2 ≤ sizeLine; decide, [v1, v2], .cons ru (.cons ru2 .nil), ⟨_, hT2, rfl, _, rfl⟩⟩
    have kk : ∀ c o, c ∉ [z, TI, TO, i1, i2] → s.heap.get? c = some o → h''.get? c = some o := by
      intro c o hb q
      simp only [List.mem_cons, List.not_mem_nil, or_false, not_or] at hb
      exact (sb.2 c hb.1).trans (hk c o hb.1 hb.2.2.1 hb.2.2.2.1 hb.2.2.2.2 q)
    have I1 : Inv X pins σ (upd H s.heap.objs.size (.tup [x, y])) { s with heap := h'', toks := tk } :=
      I.turnedNew (t' := tk) (ch := [z, TI, TO, i1, i2]) kk hf (Nat.le_refl _) new
    refine ⟨.ref s.heap.objs.size, _, I1, rfl, ⟨_, x, y, rfl, I.hok.fresh (Nat.le_refl _), rfl, fun l hl => by rw [I.list_inj hl hqx]; exact hx, fun l hl => by rw [I.tuple_inj hl hqy]; exact hy⟩, ⟨z'', ?_, ⟨v1, v2, ?_⟩, ?_, ?_⟩, ?_⟩
    · exact (sb.2 _ D.TIz).trans (hk _ _ D.TIz D.TITO D.TIi1 D.TIi2 hTI)
    · exact (sb.2 _ D.TOz).trans TO'
    · exact st1.1.at fun o q => (sb.2 _ D.i1z).trans q
    · exact st2.1.at fun o q => (sb.2 _ D.i2z).trans q
    · intro c hcm
      have hlt : c < s.heap.objs.size := by
        simp only [List.mem_cons, List.not_mem_nil, or_false] at hcm
        rcases hcm with rfl | rfl | rfl | rfl | rfl
        · exact hzl
        · exact Heap.lt_size hTI
        · exact Heap.lt_size hTO
        · obtain ⟨_, e1, _⟩ := h1; exact Heap.lt_size e1
        · obtain ⟨_, e2, _⟩ := h2; exact Heap.lt_size e2
      rw [upd_ne (Nat.ne_of_lt hlt)]
      exact (hf c hcm).1
  done := by
    intro X hP hw hK hc i pins s σ H E I hf st hg
    subst hP hw hK
    obtain ⟨hz, hTI, ⟨x0, y0, hTO⟩, h1, h2⟩ := st
    obtain ⟨xs, ys, hqx, hqy, hend⟩ := hg
    obtain ⟨its, rv, p, _⟩ := I.list hqx
    obtain ⟨its2, rv2, p2, _⟩ := I.tuple hqy
    have l1 := rv.length
    have l2 := rv2.length
    refine wpAny_pyNext_zipD2_end (i := i) (sepM D) (Draws.list (A := X.A.in1) (I.ok.hd hc) i1 a D.l1i1 its.toArray) (Draws.tuple (A := X.A.in1) (I.ok.hd hc) i2 b D.l2i2 its2.toArray) hz hTI hTO ⟨h1, p.isList⟩ ⟨h2, p2⟩ (by simp; omega) (by simp; omega) (by simp; omega) ?_
    intro h' tk hk
    refine ⟨rfl, I.turnedL (t' := tk) (ch := [z, TI, TO, i1, i2]) ?_ hf⟩
    intro c o hb q
    simp only [List.mem_cons, List.not_mem_nil, or_false, not_or] at hb
    exact hk c o hb.1 hb.2.2.1 hb.2.2.2.1 hb.2.2.2.2 q
  self := fun A i s Q E st h => wpAny_pyIter_zip st.1 h
def iZipM (K : PySem.W.Frag) (ta : TA) : TI := fun σ H R => ta σ H fun vs H1 => ∃ a b xs ys, vs = [.ref a, .ref b] ∧ SqL K H1 a xs ∧ SqT K H1 b ys ∧ R (ItzM K a b) H1
theorem pi_zipM {X : Cx} {e e2 : Expr} {ta : TA} {p pos tpos : Pos} {elts : List Expr} {kk : Nat} (hg : Gl X "zip") (hm : X.mg "zip" = none) (ha : PA X [e, e2] ta)
    (hs : starEach [e, e2] X.env = (false, eval e X.env) :: starEach [e2] X.env := by rfl) (hpl : (backTo pos (starEach [e2] X.env)).any (·.1) = false := by rfl) :
    PI X (.Tuple elts kk tpos) (.Call (.Name "zip" p) [e, e2] [] pos) (iZipM X.K ta) := by
  constructor
  intro pins s σ H R I h
  refine Call_ (ld_blt I hg hm PyProof.Rows.boot_zip (PyProof.Rows.callWith_type1 (thn (ha.run pos pins s σ H _ I h) ?_) hs hpl))
  rintro us s1 ⟨vs, H1, I1, r1, a, b, xs, ys, rfl, hqx, hqy, q⟩
  obtain ⟨u, v, rfl, rfl, rfl⟩ := vals2 r1
  obtain ⟨its, rv, p1, _⟩ := I1.list hqx
  obtain ⟨its2, rv2, p2, _⟩ := I1.tuple hqy
  refine call_zipM p1.isList (show s1.heap.IsTuple b its2.toArray from p2) fun h' hz hTI hTO h1 h2 hk => wpAny_pyIter_zip hz ?_
  have I2 : Inv X pins σ H1 { s1 with heap := h' } := I1.kept (t' := s1.toks) hk
  refine ⟨s1.heap.objs.size + 4, [s1.heap.objs.size + 4, s1.heap.objs.size + 2, s1.heap.objs.size + 3, s1.heap.objs.size, s1.heap.objs.size + 1], _, _, H1, rfl, I2,
    turn_zipM (PySem.W.ktu_apart s1.heap.objs.size a b p1.lt (tupLt p2)), ⟨hz, hTI, ⟨_, _, hTO⟩, h1, h2⟩, ?_, q⟩
  intro c hcm
  have hle : s1.heap.objs.size ≤ c := by
    simp only [List.mem_cons, List.not_mem_nil, or_false] at hcm
    rcases hcm with rfl | rfl | rfl | rfl | rfl <;> omega
  exact I1.fpOk hle (I1.hok.fresh hle)
theorem walk_zipM {K : PySem.W.Frag} {a b : Addr} {xs ys : List V} {n : Nat} (hn : n = min xs.length ys.length) :
    Walk (ItzM K a b) n (fun H => SqL K H a xs ∧ SqT K H b ys) (YPair (fun i => xs[i]?) (fun i => ys[i]?)) := by
  subst hn
  constructor
  · rintro i H hi ⟨q1, q2⟩
    have h1 : i < xs.length := by omega
    have h2 : i < ys.length := by omega
    exact ⟨xs, ys, xs[i], ys[i], q1, q2, by simp [h1], by simp [h2]⟩
  · rintro H ⟨q1, q2⟩
    exact ⟨xs, ys, q1, q2, rfl⟩
  · rintro i H v H' _ ⟨q1, q2⟩ ⟨T, x, z, h1, h2, h3, h4, h5⟩
    exact ⟨T, x, z, h1, h2, h3, h4 xs q1, h5 ys q2⟩
end Pv

namespace Pv
open PySem PySem.Spec PyProof.Rows L2
theorem samePut {H H1 : Hp} {D : Addr} {o : HO} (s : Same H H1) (nD : H D = none) : Same H (upd H1 D o) := fun b z e => by rw [upd_ne (ne_of_none e nD)]; exact s b z e
theorem ty_sq {K : PySem.W.Frag} {H : Hp} {a : Addr} {xs : List V} (h : SqT K H a xs) : TyX K H (.ref a) (.type "tuple") := by
  rcases h with (h | ⟨o, h⟩) | ⟨o, its, n, h, hc, _⟩
  · exact .base (.tup h)
  · exact .fTuple h
  · exact .kTuple h hc
theorem small {n : Nat} (h : n ≤ 1000000) : n < sizeLine := Nat.lt_of_le_of_lt h (by decide)
def addAt (ls : List Int) (p x : Int) : List Int := ls.set p.toNat (ls.getD p.toNat 0 + x)
theorem addAt_len (ls : List Int) (p x : Int) : (addAt ls p x).length = ls.length := by simp [addAt]
theorem freeOf {H : Hp} {p b : Addr} {o : HO} (h : upd H p o b = none) : H b = none := by
  by_cases e : b = p
  · subst e; rw [upd_same] at h; cases h
  · rw [upd_ne e] at h; exact h
theorem ixN_nat {n j : Nat} (h : j < n) : ixN n (j : Int) = some j := by
  unfold ixN
  rw [if_pos (by omega), if_pos (by omega)]
  simp
theorem zip_take {α β : Type} : ∀ (n : Nat) (a : List α) (b : List β), (a.take n).zip (b.take n) = (a.zip b).take n
  | 0, _, _ => by simp
  | _ + 1, [], _ => by simp
  | _ + 1, _ :: _, [] => by simp
  | n + 1, x :: a, y :: b => by simp [zip_take n a b]
def zeros (n : Nat) : List Int := List.replicate n 0
theorem zeros_V (n : Nat) : (List.replicate n [V.int 0]).flatten = (zeros n).map V.int := by
  unfold zeros
  induction n with
  | zero => rfl
  | succ n ih => rw [List.replicate_succ, List.flatten_cons, ih]; rfl
theorem zip_snoc {α β : Type} {a : List α} {b : List β} {i : Nat} {x : α} {y : β} (hx : a[i]? = some x) (hy : b[i]? = some y) : (a.take (i + 1)).zip (b.take (i + 1)) = (a.take i).zip (b.take i) ++ [(x, y)] := by
  rw [zip_take, zip_take, List.take_add_one]
  have : (a.zip b)[i]? = some (x, y) := by
    rw [List.getElem?_zip_eq_some]; exact ⟨hx, hy⟩
  rw [this]; rfl
theorem take_snoc {α : Type} {l : List α} {i : Nat} {x : α} (h : l[i]? = some x) : l.take (i + 1) = l.take i ++ [x] := by rw [List.take_add_one, h]; rfl
theorem cut_to (xs : List V) (n : Nat) : cutV xs none (some (n : Int)) = xs.take n := by
  unfold cutV
  rw [HT.sIx_none, HT.sIx_nat, List.drop_zero, Nat.sub_zero]
  by_cases h : n ≤ xs.length
  · rw [Nat.min_eq_left h]
  · rw [Nat.min_eq_right (by omega), List.take_length, List.take_of_length_le (by omega)]
def absI (i : Int) : Int := if i < 0 then -i else i
theorem absI_nn (i : Int) : 0 ≤ absI i := by unfold absI; split <;> omega
def restI (c : Int) : Int := c * (if decide ((10 : Int) ^ (18 : Int).toNat ≤ c) = true then 1 else 0)
theorem restI_nn {c : Int} (h : 0 ≤ c) : 0 ≤ restI c := by unfold restI; split <;> omega
structure InsOk (cs : List Int) (gs : List Gp) : Prop where
  c1 : 1 ≤ cs.length
  c6 : cs.length ≤ 6
  cb : ∀ c ∈ cs, 1 ≤ c ∧ c ≤ 10 ^ 12
  g1 : 1 ≤ gs.length
  g10 : gs.length ≤ 10
  gp : ∀ g ∈ gs, g.1.length ≤ 6 ∧ (∀ p ∈ g.1, 0 ≤ p ∧ p < (cs.length : Int)) ∧ 1 ≤ g.2 ∧ g.2 ≤ 10 ^ 12
theorem ExtPut {st r p : Addr} {H H1 : Hp} {o : HO} (x : Ext st r H H1) (np : H p = none) : Ext st r H (upd H1 p o) := fun b z e n1 n2 => by rw [upd_ne (ne_of_none e np)]; exact x b z e n1 n2
theorem Ext.nil {st c r p : Addr} {t : Nat} {H H1 : Hp} (x : Ext st r H H1) (d : DS H1 st c r t) (np : H1 p = none) : H p = none := by
  have o := d.off np
  cases e : H p with
  | none => rfl
  | some z => rw [x _ _ e o.1 o.2.2] at np; cases np
def upTo (n : Nat) : List Int := (List.range n).map fun (i : Nat) => (i : Int)
theorem rgV_upTo (n : Nat) : rgV 0 (n : Int) = (upTo n).map V.int := by
  unfold rgV upTo
  rw [List.map_map]
  simp
theorem upTo_len (n : Nat) : (upTo n).length = n := by simp [upTo]
theorem upTo_mem {n : Nat} {x : Int} (h : x ∈ upTo n) : 0 ≤ x ∧ x < n := by
  unfold upTo at h
  obtain ⟨i, hi, rfl⟩ := List.mem_map.mp h
  have := List.mem_range.mp hi
  omega
theorem erase_map {α β : Type} (f : α → β) : ∀ (l : List α) (k : Nat), (l.map f).eraseIdx k = (l.eraseIdx k).map f
  | [], _ => rfl
  | _ :: _, 0 => rfl
  | x :: l, k + 1 => by simp [erase_map f l k]
theorem fine_grp {cs : List Int} {gs : List Gp} (ok : InsOk cs gs) {g : Gp} (hg : g ∈ gs) : Fine 2 500 (dGrp g) := by
  obtain ⟨h1, h2, h3, h4⟩ := ok.gp g hg
  refine (fine_tup (k := 1) (B := 200) (n := 2) (xs := [dI g.1, .int g.2]) ?_ (by simp)).mono (by omega) (by omega)
  intro x hx
  simp at hx
  rcases hx with rfl | rfl
  · exact (fine_dI (n := 6) (fun p hp => by have := h2 p hp; have := ok.c6; omega) h1).mono (by omega) (by omega)
  · exact (fine_int (by omega)).mono (by omega) (by omega)
theorem fine_inst {cs : List Int} {gs : List Gp} (ok : InsOk cs gs) : Fine 4 20000 (dInst cs gs) := by
  refine (fine_tup (k := 3) (B := 8000) (n := 2) (xs := [dI cs, .tuple (gs.map dGrp)]) ?_ (by simp)).mono (by omega) (by omega)
  intro x hx
  simp at hx
  rcases hx with rfl | rfl
  · exact (fine_dI (n := 6) (fun p hp => by have := ok.cb p hp; omega) ok.c6).mono (by omega) (by omega)
  · refine (fine_tup (k := 2) (B := 500) (n := 10) ?_ (by rw [List.length_map]; exact ok.g10)).mono (by omega) (by omega)
    intro d hd
    obtain ⟨g, hg, rfl⟩ := List.mem_map.mp hd
    exact fine_grp ok hg
theorem hu70 {k : Nat} {A : Around} (hr : Room k A) : A.units + 70 < cLine := by have := hr.un; omega
theorem ty_sqL {K : PySem.W.Frag} {H : Hp} {a : Addr} {xs : List V} (h : SqL K H a xs) : TyX K H (.ref a) (.type "list") := by
  rcases h with (h | ⟨o, h⟩) | ⟨o, its, n, h, hc, _⟩
  · exact .base (.lst h)
  · exact .base (.frz h)
  · exact .kList h hc
theorem FnOk.none {P : Program} {w : World} {K : PySem.W.Frag} {mg : Str → Option Value} {base : Heap} {k : Nat} {f : Addr} {fd : FuncData} {ps : List Str} : FnOk P w K mg base CX0 k f fd ps (fun _ _ _ _ => False) :=
  ⟨fun _ _ _ _ h => h.elim, fun _ _ _ _ _ _ _ _ _ _ _ _ _ h => h.elim⟩
end Pv

namespace Pv
open PySem PySem.Spec PyProof.Rows L2

/-! data of any kind: lists stand off the drawing state, dicts have leaves alone -/
def kD : Key → PyData
  | .inl i => .int i
  | .inr x => .str x
mutual
inductive Dq (K : PySem.W.Frag) (st r : Addr) (H : Hp) : V → PyData → Prop
  | non : Dq K st r H .non .none
  | bl (b : Bool) : Dq K st r H (.bl b) (.bool b)
  | int (i : Int) : Dq K st r H (.int i) (.int i)
  | str (x : Str) : Dq K st r H (.str x) (.str x)
  | lst {a : Addr} {xs : List V} {ds : List PyData} : H a = some (.lst xs) → a ≠ st → a ≠ r → a ≠ sysModules → DqAll K st r H xs ds → Dq K st r H (.ref a) (.list ds)
  | tup {a : Addr} {xs : List V} {ds : List PyData} : SqT K H a xs → DqAll K st r H xs ds → Dq K st r H (.ref a) (.tuple ds)
  | dct {a : Addr} {kvs : List (Key × Int)} : H a = some (.dK (kvs.map fun p => (p.1, V.int p.2))) → Dq K st r H (.ref a) (.dict (kvs.map fun p => (kD p.1, .int p.2)))
inductive DqAll (K : PySem.W.Frag) (st r : Addr) (H : Hp) : List V → List PyData → Prop
  | nil : DqAll K st r H [] []
  | cons {v : V} {vs : List V} {d : PyData} {ds : List PyData} : Dq K st r H v d → DqAll K st r H vs ds → DqAll K st r H (v :: vs) (d :: ds)
end
theorem keys_reads {P : Program} {w : World} {h : Heap} : ∀ {kvs : List (Key × Int)} {vs : List (Key × Value)} {es : List DictEntry}, KV (kvs.map fun p => (p.1, V.int p.2)) vs → Pairs (mixKind P w) es vs →
    ReadsAll h (es.map (·.key)) ((kvs.map fun p => (kD p.1, PyData.int p.2)).map (·.1)) [] ∧ ReadsAll h (es.map (·.val)) ((kvs.map fun p => (kD p.1, PyData.int p.2)).map (·.2)) []
  | [], _, _, rk, rp => by
    cases rk
    cases rp
    exact ⟨.nil, .nil⟩
  | p :: kvs, _, _, rk, rp => by
    obtain ⟨pk, pi⟩ := p
    rw [List.map_cons] at rk
    cases rk with
    | @cons _ q _ qs hq tq =>
      obtain ⟨qk, qv⟩ := q
      obtain ⟨h1, h2⟩ := hq
      simp only at h1 h2
      subst h1
      cases rp with
      | @cons e _ es _ he hv tp =>
        obtain ⟨r1, r2⟩ := keys_reads (h := h) tq tp
        simp only at he hv
        obtain ⟨t, ht⟩ := h2
        subst ht
        refine ⟨?_, ?_⟩
        · have k1 : Reads h e.key (kD pk) [] := by
            rcases keyIs_shape (show keyIs pk e.key = true from he) with ⟨i, t, e1, e2⟩ | ⟨x, t, e1, e2⟩
            · rw [e1, e2]; exact .int i t
            · rw [e1, e2]; exact .str x t
          exact ReadsAll.cons k1 r1
        · have k2 : Reads h e.val (.int pi) [] := by rw [hv]; exact .int pi t
          exact ReadsAll.cons k2 r2
section
variable {X : Cx} {pins : List (Addr × Obj)} {σ : L2.St} {H : Hp} {s : Shared} {st r : Addr}
mutual
theorem Dq.reads (I : Inv X pins σ H s) : ∀ (d : PyData) (v : V) (u : Value), Dq X.K st r H v d → RelV v u → ∃ as, Reads s.heap u d as ∧ sysModules ∉ as
  | .none, _, _, h, q => by
    cases h; cases q; exact ⟨[], .none, by simp⟩
  | .bool b, _, _, h, q => by
    cases h; cases q; exact ⟨[], .bool b, by simp⟩
  | .int i, _, _, h, q => by
    cases h; obtain ⟨t, e⟩ := q; subst e; exact ⟨[], .int i t, by simp⟩
  | .str x, _, _, h, q => by
    cases h; obtain ⟨t, e⟩ := q; subst e; exact ⟨[], .str x t, by simp⟩
  | .list ds, _, _, h, q => by
    cases h with
    | lst e _ _ n hd =>
      cases q
      obtain ⟨its, rel, ⟨o, m, ho, hc, _, hm⟩, _⟩ := I.list (SqL.of e)
      obtain ⟨as, h1, h2⟩ := DqAll.reads I ds _ its hd rel
      exact ⟨_, .list ho hc hm h1, by simp only [List.mem_cons, not_or]; exact ⟨fun z => n z.symm, h2⟩⟩
  | .tuple ds, _, _, h, q => by
    cases h with
    | tup e hd =>
      cases q
      obtain ⟨its, rel, ⟨o, ho, hc, m, hm⟩, _⟩ := I.tuple e
      obtain ⟨as, h1, h2⟩ := DqAll.reads I ds _ its hd rel
      exact ⟨_, .tuple ho hc hm h1, h2⟩
  | .dict _, _, _, h, q => by
    cases h with
    | dct e =>
      cases q
      obtain ⟨_, nb, vs, rk, o, es, ep, ho, hx, hm, _, rp, _⟩ := dk_of I.hok e
      obtain ⟨h1, h2⟩ := keys_reads (h := s.heap) rk rp
      exact ⟨_, .dict ho hx.1 hm h1 h2, by simp only [List.nil_append, List.append_nil, List.mem_singleton, List.mem_cons, List.not_mem_nil, or_false]; exact fun z => absurd z.symm (by simpa using nb)⟩
theorem DqAll.reads (I : Inv X pins σ H s) : ∀ (ds : List PyData) (vs : List V) (us : List Value), DqAll X.K st r H vs ds → Vals vs us → ∃ as, ReadsAll s.heap us ds as ∧ sysModules ∉ as
  | [], _, _, h, q => by
    cases h; cases q; exact ⟨[], .nil, by simp⟩
  | d :: ds, _, _, h, q => by
    cases h with
    | cons h1 h2 =>
      cases q with
      | cons q1 q2 =>
        obtain ⟨as, e1, n1⟩ := Dq.reads I d _ _ h1 q1
        obtain ⟨bs, e2, n2⟩ := DqAll.reads I ds _ _ h2 q2
        exact ⟨_, .cons e1 e2, by simp only [List.mem_append, not_or]; exact ⟨n1, n2⟩⟩
end
end
/-- repr of such data -/
theorem call_reprQ {X : Cx} (hg : X.A.guards = some []) (hu : X.A.units + 70 < cLine) : CallR X (.builtin "repr")
    (fun xs H Q => ∃ a d st r, xs = [.ref a] ∧ Dq X.K st r H (.ref a) d ∧ d.showable = true ∧ d.depth ≤ 60 ∧ d.shown.length ≤ sizeLine ∧ Q (.str d.shown) H) := by
  intro pins s σ H xs us Q I rv h
  obtain ⟨a, d, st, r, rfl, hd, h1, h3, h4, q⟩ := h
  obtain ⟨u, rfl, rfl⟩ := vals1 rv
  obtain ⟨as, rd, nm⟩ := Dq.reads I d _ _ hd rfl
  exact repr_of_reads' rd h1 (fun _ => nm) hg (by omega) (fun _ _ e => e) (fun h' u tk hk => ⟨.str _, H, I.kept hk, ⟨_, rfl⟩, q⟩) h4

/-! how it lasts -/
section
variable {K : PySem.W.Frag} {st r c : Addr} {H H' : Hp}
structure Lasts (st r : Addr) (H H' : Hp) : Prop where
  tk : TupK H H'
  ls : ∀ a xs, H a = some (.lst xs) → a ≠ st → a ≠ r → H' a = some (.lst xs)
  dk : ∀ a kvs, H a = some (.dK kvs) → H' a = some (.dK kvs)
theorem Lasts.refl : Lasts st r H H := ⟨.refl _, fun _ _ e _ _ => e, fun _ _ e => e⟩
theorem Lasts.of (s : Same H H') : Lasts st r H H' := ⟨.of s, fun a xs e _ _ => s _ _ e, fun a kvs e => s _ _ e⟩
theorem Lasts.ext {t : Nat} (d : DS H st c r t) (x : Ext st r H H') : Lasts st r H H' := by
  refine ⟨x.tup d, fun a xs e n1 n2 => x _ _ e n1 n2, fun a kvs e => ?_⟩
  obtain ⟨cells, rests, hc, hr, _⟩ := d.ex
  exact x _ _ e (ne_of e d.hs (by intro z; cases z)) (ne_of e hr (by intro z; cases z))
theorem Lasts.trans {H2 : Hp} (a : Lasts st r H H') (b : Lasts st r H' H2) : Lasts st r H H2 :=
  ⟨a.tk.trans b.tk, fun p xs e n1 n2 => b.ls _ _ (a.ls _ _ e n1 n2) n1 n2, fun p kvs e => b.dk _ _ (a.dk _ _ e)⟩
theorem Lasts.new {p : Addr} {o : HO} (np : H p = none) : Lasts st r H (upd H p o) := .of (sameNew np)
mutual
theorem Dq.lasts (l : Lasts st r H H') : ∀ {d : PyData} {v : V}, Dq K st r H v d → Dq K st r H' v d
  | .none, _, h => by cases h; exact .non
  | .bool _, _, h => by cases h; exact .bl _
  | .int _, _, h => by cases h; exact .int _
  | .str _, _, h => by cases h; exact .str _
  | .list _, _, h => by
    cases h with
    | lst e n1 n2 n3 hd => exact .lst (l.ls _ _ e n1 n2) n1 n2 n3 (DqAll.lasts l hd)
  | .tuple _, _, h => by
    cases h with
    | tup e hd => exact .tup (l.tk.sq e) (DqAll.lasts l hd)
  | .dict _, _, h => by
    cases h with
    | dct e => exact .dct (l.dk _ _ e)
theorem DqAll.lasts (l : Lasts st r H H') : ∀ {ds : List PyData} {vs : List V}, DqAll K st r H vs ds → DqAll K st r H' vs ds
  | [], _, h => by cases h; exact .nil
  | _ :: _, _, h => by
    cases h with
    | cons h1 h2 => exact .cons (Dq.lasts l h1) (DqAll.lasts l h2)
end
mutual
theorem Dq.of_dp : ∀ {d : PyData} {v : V}, tupOnly d = true → Dp K H v d → Dq K st r H v d
  | .none, _, _, h => by cases h; exact .non
  | .bool _, _, _, h => by cases h; exact .bl _
  | .int _, _, _, h => by cases h; exact .int _
  | .str _, _, _, h => by cases h; exact .str _
  | .list _, _, t, _ => by simp [tupOnly] at t
  | .tuple _, _, t, h => by
    cases h with
    | tup e hd => exact .tup e (DqAll.of_dp (by simpa [tupOnly] using t) hd)
  | .dict _, _, t, _ => by simp [tupOnly] at t
theorem DqAll.of_dp : ∀ {ds : List PyData} {vs : List V}, tupOnlyAll ds = true → DpAll K H vs ds → DqAll K st r H vs ds
  | [], _, _, h => by cases h; exact .nil
  | d :: ds, _, t, h => by
    have t' : tupOnly d = true ∧ tupOnlyAll ds = true := by simpa [tupOnlyAll] using t
    cases h with
    | cons h1 h2 => exact .cons (Dq.of_dp t'.1 h1) (DqAll.of_dp t'.2 h2)
theorem Dq.to_dp : ∀ {d : PyData} {v : V}, tupOnly d = true → Dq K st r H v d → Dp K H v d
  | .none, _, _, h => by cases h; exact .non
  | .bool _, _, _, h => by cases h; exact .bl _
  | .int _, _, _, h => by cases h; exact .int _
  | .str _, _, _, h => by cases h; exact .str _
  | .list _, _, t, _ => by simp [tupOnly] at t
  | .tuple _, _, t, h => by
    cases h with
    | tup e hd => exact .tup e (DqAll.to_dp (by simpa [tupOnly] using t) hd)
  | .dict _, _, t, _ => by simp [tupOnly] at t
theorem DqAll.to_dp : ∀ {ds : List PyData} {vs : List V}, tupOnlyAll ds = true → DqAll K st r H vs ds → DpAll K H vs ds
  | [], _, _, h => by cases h; exact .nil
  | d :: ds, _, t, h => by
    have t' : tupOnly d = true ∧ tupOnlyAll ds = true := by simpa [tupOnlyAll] using t
    cases h with
    | cons h1 h2 => exact .cons (Dq.to_dp t'.1 h1) (DqAll.to_dp t'.2 h2)
end
theorem DqAll.len : ∀ {vs : List V} {ds : List PyData}, DqAll K st r H vs ds → vs.length = ds.length
  | _, _, .nil => rfl
  | _, _, .cons _ t => by simp [DqAll.len t]
theorem DqAll.at : ∀ {vs : List V} {ds : List PyData} {i : Nat} {v : V}, DqAll K st r H vs ds → vs[i]? = some v → ∃ d, ds[i]? = some d ∧ Dq K st r H v d
  | _, _, _, _, .nil, e => by simp at e
  | _, _, 0, _, .cons h _, e => by simp at e; subst e; exact ⟨_, rfl, h⟩
  | _, _, i + 1, v, .cons _ t, e => by
    obtain ⟨d, h1, h2⟩ := DqAll.at (i := i) t (by simpa using e)
    exact ⟨d, by simpa using h1, h2⟩
theorem DqAll.app : ∀ {vs ws : List V} {ds es : List PyData}, DqAll K st r H vs ds → DqAll K st r H ws es → DqAll K st r H (vs ++ ws) (ds ++ es)
  | _, _, _, _, .nil, h => h
  | _, _, _, _, .cons h t, h' => .cons h (DqAll.app t h')
theorem DqAll.snoc {vs : List V} {ds : List PyData} {v : V} {d : PyData} (h : DqAll K st r H vs ds) (h' : Dq K st r H v d) : DqAll K st r H (vs ++ [v]) (ds ++ [d]) := h.app (.cons h' .nil)
theorem DqAll.rev : ∀ {vs : List V} {ds : List PyData}, DqAll K st r H vs ds → DqAll K st r H vs.reverse ds.reverse
  | _, _, .nil => .nil
  | _, _, .cons h t => by rw [List.reverse_cons, List.reverse_cons]; exact (DqAll.rev t).snoc h
theorem DqAll.take : ∀ {vs : List V} {ds : List PyData} (n : Nat), DqAll K st r H vs ds → DqAll K st r H (vs.take n) (ds.take n)
  | _, _, 0, _ => .nil
  | _, _, _ + 1, .nil => .nil
  | _, _, n + 1, .cons h t => .cons h (DqAll.take n t)
theorem DqAll.drop : ∀ {vs : List V} {ds : List PyData} (n : Nat), DqAll K st r H vs ds → DqAll K st r H (vs.drop n) (ds.drop n)
  | _, _, 0, h => h
  | _, _, _ + 1, .nil => .nil
  | _, _, n + 1, .cons _ t => DqAll.drop n t
/-- its type -/
def tyN : PyData → String
  | .none => "NoneType"
  | .bool _ => "bool"
  | .int _ => "int"
  | .str _ => "str"
  | .list _ => "list"
  | .tuple _ => "tuple"
  | .dict _ => "dict"
theorem Dq.ty {d : PyData} {v : V} (h : Dq K st r H v d) : TyX K H v (.type (tyN d)) := by
  cases h with
  | non => exact .base .non
  | bl b => exact .base (.bl b)
  | int i => exact .base (.int i)
  | str x => exact .base (.str x)
  | lst e => exact .base (.lst e)
  | tup e _ =>
    rcases e with (e | ⟨o, e⟩) | ⟨o, its, n, e, hc, _⟩
    · exact .base (.tup e)
    · exact .fTuple e
    · exact .kTuple e hc
  | dct e => exact .base (.dK e)
def isTup : PyData → Bool
  | .tuple _ => true
  | _ => false
def isInt : PyData → Bool
  | .int _ => true
  | .bool _ => true
  | _ => false
def isBool : PyData → Bool
  | .bool _ => true
  | _ => false
theorem kit_tup (d : PyData) : PySem.W.kitOne K (.type (tyN d)) (.type "tuple") = some (isTup d) := by
  have key : ∀ a b : String, ∀ x : Bool, kitB a b = some x → PySem.W.kitOne K (.type a) (.type b) = some x := fun _ _ _ h => kit_ty h
  cases d
  · exact key "NoneType" "tuple" false (by decide +kernel)
  · exact key "bool" "tuple" false (by decide +kernel)
  · exact key "int" "tuple" false (by decide +kernel)
  · exact key "str" "tuple" false (by decide +kernel)
  · exact key "list" "tuple" false (by decide +kernel)
  · exact key "tuple" "tuple" true (by decide +kernel)
  · exact key "dict" "tuple" false (by decide +kernel)
theorem kit_int (d : PyData) : PySem.W.kitOne K (.type (tyN d)) (.type "int") = some (isInt d) := by
  have key : ∀ a b : String, ∀ x : Bool, kitB a b = some x → PySem.W.kitOne K (.type a) (.type b) = some x := fun _ _ _ h => kit_ty h
  cases d
  · exact key "NoneType" "int" false (by decide +kernel)
  · exact key "bool" "int" true (by decide +kernel)
  · exact key "int" "int" true (by decide +kernel)
  · exact key "str" "int" false (by decide +kernel)
  · exact key "list" "int" false (by decide +kernel)
  · exact key "tuple" "int" false (by decide +kernel)
  · exact key "dict" "int" false (by decide +kernel)
theorem kit_bool (d : PyData) : PySem.W.kitOne K (.type (tyN d)) (.type "bool") = some (isBool d) := by
  have key : ∀ a b : String, ∀ x : Bool, kitB a b = some x → PySem.W.kitOne K (.type a) (.type b) = some x := fun _ _ _ h => kit_ty h
  cases d
  · exact key "NoneType" "bool" false (by decide +kernel)
  · exact key "bool" "bool" true (by decide +kernel)
  · exact key "int" "bool" false (by decide +kernel)
  · exact key "str" "bool" false (by decide +kernel)
  · exact key "list" "bool" false (by decide +kernel)
  · exact key "tuple" "bool" false (by decide +kernel)
  · exact key "dict" "bool" false (by decide +kernel)
end
/-! a new list, whose address is none of the machine's own -/
def tLstS (t : TA) : TE := fun σ H Q => t σ H fun xs H1 => xs.length ≤ sizeLine ∧ ∀ p, H1 p = none → p ≠ sysModules → Q (.ref p) (upd H1 p (.lst xs))
section
variable {X : Cx} {es : List Expr} {pos : Pos} {t : TA}
theorem pe_lstS (h : PA X es t) : PE X (.List es pos) (tLstS t) := by
  constructor
  intro pins s σ H Q I hq
  refine wpAny_List_spliced (thn (h.run pos pins s σ H _ I hq) ?_)
  rintro us s1 ⟨xs, H1, I1, rel, z, q⟩
  refine ⟨by rw [← rel.length]; exact z, .ref s1.heap.objs.size, _, ?_, rfl, q _ (I1.hok.fresh (Nat.le_refl _)) (Nat.ne_of_gt I1.big)⟩
  exact I1.laid (t' := s1.toks) (fun b u e => Heap.get?_push_of_some _ e) (Nat.le_refl _) ⟨z, us, 0, rel, Heap.get?_push_size _ rfl⟩
def rListS (K : PySem.W.Frag) : RC := fun xs H Q => ∃ (p : Addr) (ys : List V), xs = [.ref p] ∧ SqT K H p ys ∧ ∀ l, H l = none → l ≠ sysModules → Q (.ref l) (upd H l (.lst ys))
theorem call_listS : CallR X (.type "list") (rListS X.K) := by
  intro pins s σ H xs us Q I rel h
  obtain ⟨p, ys, e, hq, q⟩ := h
  subst e
  obtain ⟨u, e, rx⟩ := vals1 rel
  subst e
  cases rx
  obtain ⟨its, r', ⟨o, ho, hc, n, hd⟩, hz⟩ := I.tuple hq
  have hlen := r'.length
  refine call_list_seq p (.inr rfl) ho hc hd (fun h' c' kp e => ?_) (by simp only [List.size_toArray]; omega)
  exact ⟨.ref s.heap.objs.size, _, I.laid (t' := s.toks) (o := .lst ys) kp (Nat.le_refl _) ⟨hz, its, c', r', e⟩, rfl, q _ (I.hok.fresh (Nat.le_refl _)) (Nat.ne_of_gt I.big)⟩
end
end Pv

/-! t[::-1] of a tuple -/
namespace HT
open PySem PyProof.Rows
section
variable {prog : Program} {w : World} {A : Around} {E : Value → Shared → Prop} {s : Shared}
theorem pv_pickBack (xs : Array Value) : ((List.range xs.size).filterMap fun (k : Nat) => xs[(((xs.size : Int) - 1) + (k : Int) * (-1)).toNat]?) = xs.toList.reverse := by
  apply List.ext_getElem?
  intro i
  have e : ∀ n, n ≤ xs.size → ((List.range n).filterMap fun (k : Nat) => xs[(((xs.size : Int) - 1) + (k : Int) * (-1)).toNat]?) = xs.toList.reverse.take n := by
    intro n
    induction n with
    | zero => intro _; rfl
    | succ n ih =>
      intro hn
      rw [List.range_succ, List.filterMap_append, ih (by omega), List.take_add_one]
      congr 1
      have h1 : (((xs.size : Int) - 1) + (n : Int) * (-1)).toNat = xs.size - 1 - n := by omega
      rw [List.filterMap_cons, List.filterMap_nil, h1, List.getElem?_reverse (by rw [Array.length_toList]; omega), Array.length_toList, Array.getElem?_toList]
      cases xs[xs.size - 1 - n]? <;> rfl
  rw [e xs.size (Nat.le_refl _), List.take_of_length_le (by simp)]
theorem pv_appliedBack {sl : Addr} {n : Nat} {t : Tok} {Q : Int × Int × Nat → Shared → Prop} (hs : s.heap.IsSliceOf sl .none .none (.int (-1) t)) (h : Q ((n : Int) - 1, -1, n) s) :
    wpAny (model prog w) A (Builtin.Slice.sliceApplied (.ref sl) (pure (n : Int))) Q E s := by
  obtain ⟨os, hos, hcs, hds⟩ := id hs
  unfold Builtin.Slice.sliceApplied Builtin.Slice.sliceFields
  refine wpAny_bind (wpAny_bind (wpAny_field hos hds (x := .none) rfl (wpAny_bind (wpAny_field hos hds (x := .none) rfl (wpAny_bind (wpAny_field hos hds (x := .int (-1) t) rfl (wpAny_pure ?_)))))))
  refine wpAny_bind (slicePart_ (IsPart.int (-1) t) ?_)
  show wpAny _ _ (if ((-1 : Int) == 0) = true then _ else _) _ _ s
  rw [if_neg (by decide)]
  refine wpAny_bind (slicePart_ IsPart.none (wpAny_bind (slicePart_ IsPart.none (wpAny_bind (wpAny_pure ?_)))))
  show wpAny _ _ (match Builtin.Slice.sliceAdjust none none (-1) (n : Int) with | (a, b) => pure (a, (-1 : Int), Builtin.Slice.slicePlaces a b (-1))) _ _ s
  have e1 : Builtin.Slice.sliceAdjust none none (-1) (n : Int) = ((n : Int) - 1, -1) := rfl
  rw [e1]
  show wpAny _ _ (pure ((n : Int) - 1, (-1 : Int), Builtin.Slice.slicePlaces ((n : Int) - 1) (-1) (-1))) _ _ s
  have e2 : Builtin.Slice.slicePlaces ((n : Int) - 1) (-1) (-1) = n := by
    unfold Builtin.Slice.slicePlaces
    have h1 : ¬ ((-1 : Int) > 0) := by omega
    simp only [h1, if_false]
    by_cases h2 : (n : Int) - 1 > -1
    · rw [if_pos h2]
      have h3 : -(-1 : Int) = 1 := rfl
      rw [h3, Int.ediv_one]
      omega
    · rw [if_neg h2]; omega
  rw [e2]
  exact wpAny_pure h
theorem pv_getItemBack {p sl : Addr} {items : Array Value} {t : Tok} {Q : Value → Shared → Prop} (ht : IsTup s.heap p items) (hs : s.heap.IsSliceOf sl .none .none (.int (-1) t))
    (h : Q (.ref s.heap.objs.size) { s with heap := s.heap.push { cls := .type "tuple", data := .seq items.toList.reverse.toArray } }) (hsz : items.size ≤ sizeLine) : wpAny (model prog w) A (getItem (.ref p) (.ref sl)) Q E s := by
  have hfit : sizeOk (.seq items.toList.reverse.toArray) := by
    show items.toList.reverse.toArray.size ≤ sizeLine
    rw [List.size_toArray, List.length_reverse]; simpa using hsz
  obtain ⟨os, hos, hcs, hds⟩ := id hs
  have hT : s.TypeIs (.ref sl) "slice" := ⟨os, hos, hcs⟩
  unfold getItem; try with_reducible refine wpAny_holding ?_
  first | refine wpAny_bind (wpAny_pure ?_) | skip
  refine wpAny_bind (wpAny_sequenceKey ht.typeIs (by decide) (wpAny_bind (wpAny_callSpecial?_slot (name := Str.ofString "__getitem__") ht.typeIs PyProof.Rows.slot_tuple_getitem
    (wpAny_call_entry PyProof.Rows.slot_tuple_getitem ht.typeIs entry_tuple_getitem ?_ (args_tuple_getitem _ _)))))
  show wpAny _ _ (Builtin.Tuple.tupleItemsOf (.ref p) >>= _) _ _ s
  refine wpAny_bind (tupleItemsOf_ ht (wpAny_bind (wpAny_typeOf hT ?_)))
  rw [if_pos (by decide)]
  refine wpAny_bind (pv_appliedBack hs ?_)
  show wpAny _ _ (if (((items.size : Int) - 1) == 0 && (-1 : Int) == 1 && items.size == items.size) = true then _ else _) _ _ s
  rw [if_neg (by simp)]
  show wpAny _ _ (Builtin.Tuple.tupleExact ((List.range items.size).filterMap fun (k : Nat) => items[(((items.size : Int) - 1) + (k : Int) * (-1)).toNat]?).toArray >>= _) _ _ s
  rw [pv_pickBack]
  first
    | exact wpAny_bind (m := Builtin.Tuple.tupleExact _) (wpAny_newObj_type (wpAny_pure ⟨_, rfl, wpAny_pure h⟩) hfit)
    | exact wpAny_bind (m := Builtin.Tuple.tupleExact _) (wpAny_newObj_type (wpAny_bind (wpAny_pure (wpAny_pure ⟨_, rfl, wpAny_pure h⟩))) hfit)
    | exact wpAny_bind (wpAny_bind (m := Builtin.Tuple.tupleExact _) (wpAny_newObj_type (wpAny_pure (wpAny_pure ⟨_, rfl, wpAny_pure h⟩)) hfit))
    | exact wpAny_bind (wpAny_bind (m := Builtin.Tuple.tupleExact _) (wpAny_newObj_type (wpAny_pure ⟨_, rfl, wpAny_pure h⟩) hfit))
end
end HT
namespace Pv
open PySem PySem.Spec PyProof.Rows L2
def tRevT (K : PySem.W.Frag) (te : TE) : TE := fun σ H Q => te σ H fun x H1 => ∃ (a : Addr) (xs : List V), x = .ref a ∧ SqT K H1 a xs ∧ ∀ p, H1 p = none → Q (.ref p) (upd H1 p (.tup xs.reverse))
section
variable {X : Cx}
theorem pe_revT {e : Expr} {te : TE} {k : Nat} {p1 p2 p3 pos : Pos} (he : PE X e te) : PE X (.Subscript e (.Slice none none (some (.UnaryOp .USub (.Constant (.int 1) k p1) p2)) p3) pos) (tRevT X.K te) := by
  constructor
  intro pins s σ H Q I h
  refine Subscript_ (thn (he.run pins s σ H _ I h) ?_)
  rintro v s1 ⟨x, H1, I1, r1, a, xs, rfl, hx, q⟩
  cases r1
  have hst : PO X (some (.UnaryOp .USub (.Constant (.int 1) k p1) p2)) (tPart (tUn (rU fun i => .int (-i)) (tC (.int 1)))) := po_some (pe_un un_neg pe_int)
  refine wpAny_Slice (thn (po_none.run pins s1 σ H1 (fun o H2 => o = none ∧ H2 = H1) I1 ⟨rfl, rfl⟩) ?_)
  rintro vl s2 ⟨l, H2, I2, pl, rfl, rfl⟩
  refine thn (po_none.run pins s2 σ H2 (fun o H3 => o = none ∧ H3 = H2) I2 ⟨rfl, rfl⟩) ?_
  rintro vu s3 ⟨u, H3, I3, pu, rfl, rfl⟩
  refine thn (hst.run pins s3 σ H3 (fun o H4 => o = some (-1) ∧ H4 = H3) I3 ⟨1, rfl, -1, rfl, rfl, rfl⟩) ?_
  rintro vs s4 ⟨o, H4, I4, ps, rfl, rfl⟩
  have I5 : Inv X pins σ H4 { s4 with heap := s4.heap.push { cls := .type "slice", data := .fields #[vl, vu, vs] } } := I4.kept (t' := s4.toks) fun b ob q => Heap.get?_push_of_some _ q
  obtain ⟨its, r, ht, hz⟩ := I5.tuple hx
  have hlen := r.length
  cases pl
  cases pu
  cases ps
  show wpAny (model X.prog X.w) X.A (subscriptTail e (.Slice none none (some (.UnaryOp .USub (.Constant (.int 1) k p1) p2)) p3) (.ref a) (.ref s4.heap.objs.size)) (EP X pins σ Q) X.xe _
  refine tail_any (ops := [.ref a, .ref s4.heap.objs.size]) ht.typeIs (PyProof.Rows.slot_tuple_getitem.lookup) ?_ (by with_unfolding_all rfl)
  refine HT.pv_getItemBack ht (Heap.IsSliceOf.new _ _ _ _) ?_ (by rw [List.size_toArray]; omega)
  refine ⟨.ref _, _, I5.laid (t' := s4.toks) (o := .tup xs.reverse) (fun b ob q => Heap.get?_push_of_some _ q) (Nat.le_refl _) ?_, rfl, q _ (I5.hok.fresh (Nat.le_refl _))⟩
  exact ⟨by rw [List.length_reverse]; exact hz, _, r.reverse, IsTup.new _ _⟩
/-! list == [], tuple != () whatever the items are -/
def rEqNil (K : PySem.W.Frag) : R2 := fun x y H Q => ∃ (a b : Addr) (xs : List V), x = .ref a ∧ y = .ref b ∧ SqL K H a xs ∧ SqL K H b [] ∧ Q (.bl xs.isEmpty) H
theorem op_eqNil (hu : X.A.units < cLine) : OpR X (compareOp .Eq) (rEqNil X.K) := by
  intro pins s σ H x y v u Q I rx ry h
  obtain ⟨a, b, xs, rfl, rfl, ha, hb, q⟩ := h
  cases rx
  cases ry
  obtain ⟨its, r1, p1, z1⟩ := I.list ha
  obtain ⟨its2, r2, p2, z2⟩ := I.list hb
  cases r2
  cases xs with
  | nil =>
    cases r1
    exact SeqAt.RcAt.lists (e := fun _ => true) p1.isList p2.isList rfl hu (fun j h1 _ => absurd h1 (Nat.not_lt_zero _)) X.prog X.w _ _ ⟨.bl true, H, I, rfl, q⟩
  | cons x xs =>
    have hl := r1.length
    exact SeqAt.RcAt.lists_lengths p1.isList p2.isList (by rw [List.size_toArray, ← hl]; rfl) hu X.prog X.w _ _ ⟨.bl false, H, I, rfl, q⟩
def rNeNilT (K : PySem.W.Frag) : R2 := fun x y H Q => ∃ (a b : Addr) (xs : List V), x = .ref a ∧ y = .ref b ∧ SqT K H a xs ∧ SqT K H b [] ∧ Q (.bl (!xs.isEmpty)) H
theorem op_neNilT (hu : X.A.units < cLine) : OpR X (compareOp .NotEq) (rNeNilT X.K) := by
  intro pins s σ H x y v u Q I rx ry h
  obtain ⟨a, b, xs, rfl, rfl, ha, hb, q⟩ := h
  cases rx
  cases ry
  obtain ⟨its, r1, p1, z1⟩ := I.tuple ha
  obtain ⟨its2, r2, p2, z2⟩ := I.tuple hb
  cases r2
  have hl := r1.length
  have key := SeqAt.RcNeAt.tuples (A := X.A) (e := fun _ => true) (show s.heap.IsTuple a its.toArray from p1) (show s.heap.IsTuple b ([] : List Value).toArray from p2) hu (fun j _ h2 => absurd h2 (Nat.not_lt_zero _)) X.prog X.w
  have e : (!((List.range (min its.toArray.size ([] : List Value).toArray.size)).all (fun _ => true) && its.toArray.size == ([] : List Value).toArray.size)) = !xs.isEmpty := by
    rw [List.size_toArray, ← hl]
    cases xs <;> simp
  rw [e] at key
  exact key _ _ ⟨.bl _, H, I, rfl, q⟩
end
end Pv

namespace Pv
open PySem PySem.Spec PyProof.Rows L2
def topS (i : Nat) : Stmt := PySem.Challenge.pw_postvote_k73_other_texts_of_assignments.main.body.getD i (.Pass ⟨0, 0, 0, 0⟩)
abbrev sDraw : Stmt := topS 22
abbrev sStart : Stmt := topS 21
abbrev sOne : Stmt := topS 23
theorem scDraw : FnScope ["_law_deck_here", "_law_many", "_law_cells", "_law_rests", "_law_count", "_law_index", "_law_digit", "_law_mixed_here"] ["_law_deck_here", "_law_many"] (defScope sDraw) :=
  ⟨rfl, rfl, rfl, by decide +kernel, rfl, by decide +kernel, by decide +kernel⟩
theorem scStart : FnScope ["_law_script", "_law_cells", "_law_cell"] ["_law_script"] (defScope sStart) := ⟨rfl, rfl, rfl, by decide +kernel, rfl, by decide +kernel, by decide +kernel⟩
theorem scOne : FnScope ["_law_deck_here", "_law_items"] ["_law_deck_here", "_law_items"] (defScope sOne) := ⟨rfl, rfl, rfl, by decide +kernel, rfl, by decide +kernel, by decide +kernel⟩
section
variable {P : Program} {w : World} {K : PySem.W.Frag} {mg : Str → Option Value} {base : Heap}
def spDraw : Sp := fun vs H Q _ => ∃ (st c r : Addr) (t : Nat) (m : Int), vs = [.ref st, .int m] ∧ DS H st c r t ∧ t < 1000000 ∧ 0 < m ∧ m ≤ 2 ^ 60 ∧
  ∀ (H' : Hp) (d : Int), 0 ≤ d → d < m → DS H' st c r (t + 1) → Ext st r H H' → Q (.int d) H'
set_option maxHeartbeats 1000000 in
theorem ok_draw {f : Addr} {fd : FuncData} {k : Nat} (F : Fun K "_law_next" "_law_next" sDraw f fd) (ml : mg "len" = none) : FnOk P w K mg base CX0 (k + 1) f fd ["_law_deck_here", "_law_many"] spDraw := by
  refine F.ok scDraw (fun vs H Q E h => ?_) (fun cdv A outer s H vs Q E hr h => ?_)
  · obtain ⟨st, c, r, t, m, rfl, _⟩ := h
    rfl
  · obtain ⟨st, c, r, t, m, rfl, hd, ht, hm, hm2, q⟩ := h
    obtain ⟨cells, rests, hc, hrr, hl, hl0, hl1, hnn⟩ := hd.ex
    refine ⟨_, pss_cons (ps_asg (pv 0) (pg_unl rfl (pgs_cons (pg_name (i := 2) scDraw.nd rfl (.inl rfl)) (pgs_cons (pg_name (i := 3) scDraw.nd rfl (.inl rfl)) (pgs_cons (pg_name (i := 4) scDraw.nd rfl (.inl rfl)) pgs_nil)))))
      (pss_cons (ps_asg (pe_op op_add (pv 4) pe_int) (pg_sub (pv 0) pe_int set_list))
      (pss_cons (ps_set (i := 5) scDraw.nd rfl (.inl rfl) (pe_op op_mod (pv 4) (pe_callB call_len_seq (by rfl) ml PySem.boot_len (pa_cons (pv 2) pa_nil))))
      (pss_cons (ps_if (pt_cmpR op_gt (pe_ix ix_list (pv 3) (pv 5) (fun _ _ => rfl)) pe_int (nomark _))
        (pss_cons (ps_set (i := 6) scDraw.nd rfl (.inl rfl) (pe_op op_mod (pe_ix ix_list (pv 3) (pv 5) (fun _ _ => rfl)) (pv 1)))
        (pss_cons (ps_asg (pe_op op_fdivW (pe_ix ix_list (pv 3) (pv 5) (fun _ _ => rfl)) (pv 1)) (pg_sub (pv 3) (pv 5) set_list))
        (pss_one (ps_ret (pv 6))))) pss_nil)
      (pss_cons (ps_set (i := 7) scDraw.nd rfl (.inl rfl) (pe_op op_mul (pe_op op_add (pe_op op_add (pe_ix ix_list (pv 2) (pv 5) (fun _ _ => rfl)) (pe_op op_mul pe_int (pv 4))) pe_int) (pe_op op_add pe_int (pe_op op_mul pe_int (pv 4)))))
      (pss_cons (ps_set (i := 7) scDraw.nd rfl (.inl rfl) (pe_op op_mod (pe_op op_add (pv 7) (pe_op op_mul pe_int (pv 4))) pe_int))
      (pss_cons (ps_set (i := 7) scDraw.nd rfl (.inl rfl) (pe_op op_mod (pe_op op_add (pe_op op_mul (pv 7) (pv 7)) pe_int) pe_int))
      (pss_cons (ps_set (i := 7) scDraw.nd rfl (.inl rfl) (pe_op op_mod (pe_op op_mul (pv 7) (pv 7)) pe_int))
      (pss_one (ps_ret (pe_op op_mod (pe_op op_fdiv (pv 7) pe_int) (pv 1))))))))))), ?_⟩
    refine ⟨.ref st, rfl, st, _, rfl, SqL.of hd.hs, rfl, .ref c, _, rfl, .ref r, _, rfl, .int t, _, rfl, rfl, ?_⟩
    -- deck[2] = count + 1
    refine ⟨.int t, rfl, _, _, rfl, rfl, .ref st, rfl, st, _, 2, 2, rfl, rfl, hd.hs, rfl, ?_⟩
    have e1 : (upd H st (.lst [.ref c, .ref r, .int ((t : Int) + 1)])) r = some (.lst (rests.map V.int)) := by rw [upd_ne hd.n3.symm]; exact hrr
    have e2 : (upd H st (.lst [.ref c, .ref r, .int ((t : Int) + 1)])) c = some (.lst (cells.map V.int)) := by rw [upd_ne hd.n2.symm]; exact hc
    have ex0 : Ext st r H (upd H st (.lst [.ref c, .ref r, .int ((t : Int) + 1)])) := fun b o h n1 _ => by rw [upd_ne n1]; exact h
    have d0 : DS (upd H st (.lst [.ref c, .ref r, .int ((t : Int) + 1)])) st c r (t + 1) := ⟨upd_same, ⟨cells, rests, e2, e1, hl, hl0, hl1, hnn⟩, hd.n1, hd.n2, hd.n3⟩
    -- index
    refine ⟨.int t, rfl, .ref c, rfl, c, _, rfl, .inl (SqL.of e2), _, _, rfl, rfl, by rw [List.length_map]; omega, ?_⟩
    have hn : (List.map V.int cells).length = cells.length := List.length_map ..
    have hsp : ((t : Int) % (((List.map V.int cells).length : Nat) : Int)) = ((t % cells.length : Nat) : Int) := by rw [hn]; norm_cast
    have hlt : t % cells.length < cells.length := Nat.mod_lt _ hl0
    generalize hj : t % cells.length = j at hsp hlt
    obtain ⟨x, hx⟩ : ∃ x, rests[j]? = some x := ⟨rests[j], List.getElem?_eq_getElem (by omega)⟩
    obtain ⟨y, hy⟩ : ∃ y, cells[j]? = some y := ⟨cells[j], List.getElem?_eq_getElem (by omega)⟩
    have hx0 : 0 ≤ x := hnn x (List.mem_of_getElem? hx)
    have hxv : (rests.map V.int)[j]? = some (.int x) := by rw [List.getElem?_map, hx]; rfl
    have hyv : (cells.map V.int)[j]? = some (.int y) := by rw [List.getElem?_map, hy]; rfl
    dsimp only
    rw [hsp]
    refine ⟨.ref r, rfl, .int j, rfl, r, _, _, .int x, rfl, rfl, SqL.of e1, atI_nat hxv, _, _, rfl, rfl, _, rfl, ite2 (fun hgt => ?_) (fun hle => ?_)⟩
    · refine ⟨.ref r, rfl, .int j, rfl, r, _, _, .int x, rfl, rfl, SqL.of e1, atI_nat hxv, .int m, rfl, _, _, rfl, rfl, hm, ?_⟩
      refine ⟨.ref r, rfl, .int j, rfl, r, _, _, .int x, rfl, rfl, SqL.of e1, atI_nat hxv, .int m, rfl, _, _, rfl, rfl, wide_div (b := 61) hm (by omega) (by decide) (by decide), ?_⟩
      refine ⟨.ref r, rfl, .int j, rfl, r, _, _, j, rfl, rfl, e1, ixN_nat (by rw [List.length_map]; omega), ?_⟩
      refine ⟨_, rfl, q _ _ (Int.emod_nonneg _ (by omega)) (Int.emod_lt_of_pos _ hm) ?_ ?_⟩
      · refine ⟨by rw [upd_ne hd.n3]; exact upd_same, ⟨cells, rests.set j (x / m), by rw [upd_ne hd.n1]; exact e2, by rw [upd_same, List.map_set], by rw [List.length_set]; exact hl, hl0, hl1, ?_⟩, hd.n1, hd.n2, hd.n3⟩
        intro z hz
        rcases List.mem_or_eq_of_mem_set hz with h | h
        · exact hnn z h
        · rw [h]; exact Int.ediv_nonneg hx0 (by omega)
      · exact fun b o h n1 n2 => by rw [upd_ne n2]; exact ex0 b o h n1 n2
    · refine ⟨.ref c, rfl, .int j, rfl, c, _, _, .int y, rfl, rfl, SqL.of e2, atI_nat hyv, .int t, rfl, _, _, rfl, rfl, .inl ⟨by decide, by decide⟩, _, _, rfl, rfl, _, _, rfl, rfl, .int t, rfl, _, _, rfl, rfl, .inl ⟨by decide, by decide⟩, _, _, rfl, rfl, _, _, rfl, rfl, .inr ⟨by omega, by omega⟩, ?_⟩
      refine ⟨_, rfl, .int t, rfl, _, _, rfl, rfl, .inl ⟨by decide, by decide⟩, _, _, rfl, rfl, _, _, rfl, rfl, (by show (0 : Int) < 2305843009213693951; decide), ?_⟩
      dsimp only
      generalize hu : ((y + 1301 * (t : Int) + 23) * (50021 + 2 * (t : Int)) + 90001 * (t : Int)) % 2305843009213693951 = u
      have hu1 : 0 ≤ u := by rw [← hu]; exact Int.emod_nonneg _ (by decide)
      have hu2 : u < 2305843009213693951 := by rw [← hu]; exact Int.emod_lt_of_pos _ (by decide)
      refine ⟨.int u, rfl, .int u, rfl, _, _, rfl, rfl, .inl ⟨by omega, by omega⟩, _, _, rfl, rfl, _, _, rfl, rfl, (by show (0 : Int) < 2305843009213693921; decide), ?_⟩
      dsimp only
      generalize hv : (u * u + 60013) % 2305843009213693921 = v
      have hv1 : 0 ≤ v := by rw [← hv]; exact Int.emod_nonneg _ (by decide)
      have hv2 : v < 2305843009213693921 := by rw [← hv]; exact Int.emod_lt_of_pos _ (by decide)
      refine ⟨.int v, rfl, .int v, rfl, _, _, rfl, rfl, .inl ⟨by omega, by omega⟩, _, _, rfl, rfl, (by show (0 : Int) < 2305843009213693951; decide), ?_⟩
      refine ⟨_, rfl, _, _, rfl, rfl, ⟨by decide, by decide⟩, .int m, rfl, _, _, rfl, rfl, hm, ?_⟩
      exact q _ _ (Int.emod_nonneg _ (by omega)) (Int.emod_lt_of_pos _ hm) d0 ex0
def spStart (K : PySem.W.Frag) : Sp := fun vs H Q _ => ∃ (a : Addr) (ns : List Int), vs = [.ref a] ∧ SqL K H a (ns.map V.int) ∧ ns.length ≤ 63 ∧
  ∀ H' st c r, Same H H' → DS H' st c r 0 → Q (.ref st) H'
set_option maxHeartbeats 2000000 in
theorem ok_start {f : Addr} {fd : FuncData} {k : Nat} (F : Fun K "_law_deck" "_law_deck" sStart f fd) (ma : mg "abs" = none) (mi : mg "int" = none) (ml : mg "len" = none) :
    FnOk P w K mg base CX0 (k + 1) f fd ["_law_script"] (spStart K) := by
  refine F.ok scStart (fun vs H Q E h => ?_) (fun cdv A outer s H vs Q E hr h => ?_)
  · obtain ⟨a, ns, rfl, _⟩ := h; rfl
  · obtain ⟨a, ns, rfl, hS, hn, q⟩ := h
    refine ⟨_, pss_cons (ps_set (i := 1) scStart.nd rfl (.inl rfl) (pe_op op_cat
        (pe_lc (own := [("_law_cell", 2)]) (g := gName 2) (tt := tYes) rfl scStart.nd (pi_list (pe_slice sl_list (pv 0) po_none (po_some pe_int))) (blkOk_by (N := ["_law_script", "_law_cells", "_law_cell"]) (sc := defScope sStart) (by decide +kernel))
            (fun _ _ _ _ _ => pg_name (i := 2) scStart.nd rfl (.inl rfl)) (fun _ _ _ _ _ => pts_nil)
            (fun _ _ _ _ _ => pe_callB call_abs (by rfl) ma (by decide +kernel) (pa_cons (pv 2) pa_nil)))
        (pe_op op_rep (pe_lst (pa_cons pe_int pa_nil)) (pe_callTy call_int1 (by rfl) mi (by decide +kernel) (pa_cons (pe_cmpR op_eq (pe_callB call_len_seq (by rfl) ml PySem.boot_len (pa_cons (pv 0) pa_nil)) pe_int (nomark _)) pa_nil)))))
      (pss_one (ps_ret (pe_lst (pa_cons (pv 1) (pa_cons
        (pe_lc (own := [("_law_cell", 2)]) (g := gName 2) (tt := tYes) rfl scStart.nd (pi_list (pv 1)) (blkOk_by (N := ["_law_script", "_law_cells", "_law_cell"]) (sc := defScope sStart) (by decide +kernel))
            (fun _ _ _ _ _ => pg_name (i := 2) scStart.nd rfl (.inl rfl)) (fun _ _ _ _ _ => pts_nil)
            (fun _ _ _ _ _ => pe_op op_mul (pv 2) (pe_callTy call_int1 (by rfl) mi (by decide +kernel) (pa_cons (pe_cmpR op_ge (pv 2) (pe_op op_pow pe_int pe_int) (nomark _)) pa_nil))))
        (pa_cons pe_int pa_nil)))))), ?_⟩
    have hcut : cutV (ns.map V.int) none (some 61) = (ns.take 61).map V.int := by rw [List.map_take]; exact cut_to _ 61
    refine ⟨.ref a, rfl, 61, rfl, a, _, rfl, hS, fun p np => ⟨p, rfl, ⟨_, SqL.of upd_same⟩, fun D nD => lc_list (xs := cutV (ns.map V.int) none (some 61))
      (fun j H2 => Same (upd H p (.lst (cutV (ns.map V.int) none (some 61)))) H2 ∧ H2 D = some (.lst ((((ns.take 61).map absI).take j).map V.int)))
      ⟨sameNew nD, upd_same⟩ (fun j H2 _ h2 => SqL.of (h2.1 _ _ upd_same)) ?_ ?_⟩⟩
    · rintro j x H2 hx ⟨s2, e2⟩
      rw [hcut, List.getElem?_map] at hx
      obtain ⟨z, hz, rfl⟩ := Option.map_eq_some_iff.mp hx
      refine ⟨rfl, .int z, rfl, z, rfl, _, e2, ?_, samePut s2 nD, ?_⟩
      · rw [List.length_map, List.length_take]; simp; exact small (by omega)
      · rw [upd_same, take_snoc (show ((ns.take 61).map absI)[j]? = some (absI z) by rw [List.getElem?_map, hz]; rfl), List.map_append]; rfl
    · rintro H2 ⟨s2, e2⟩
      rw [hcut, List.length_map, List.take_of_length_le (by simp)] at e2
      have s02 : Same H H2 := (sameNew np).trans s2
      -- [0] * int(len(script) == 0)
      refine ⟨by decide, fun p1 n1 => ⟨.ref a, rfl, a, _, rfl, .inl (((s02.trans (sameNew n1))).seq hS), rfl, .inr ⟨_, rfl, p1, _, _, rfl, rfl, upd_same, by split <;> decide, by split <;> decide, by split <;> decide, fun p2 n2 => ?_⟩⟩⟩
      generalize hb : decide (V.int ((List.map V.int ns).length : Int) = V.int 0) = b at n2 ⊢
      have e2' := upNew n2 (o := .lst (List.replicate (if b = true then (1 : Int) else 0).toNat [V.int 0]).flatten) (upNew n1 (o := .lst [.int 0]) e2)
      have hl0 : ns.length = 0 ↔ b = true := by
        rw [← hb, decide_eq_true_eq, List.length_map]
        constructor
        · intro h; rw [h]; rfl
        · intro h; have := V.int.inj h; omega
      have hrep : (List.replicate (if b = true then (1 : Int) else 0).toNat [V.int 0]).flatten = ((if b = true then [0] else []) : List Int).map V.int := by
        cases b <;> rfl
      refine ⟨D, p2, _, _, rfl, rfl, e2', upd_same, ?_, fun C nC => ?_⟩
      · rw [hrep, List.length_map, List.length_map, List.length_map, List.length_take]; have : (if b = true then [0] else [] : List Int).length ≤ 1 := by split <;> simp
        have h5 := small (n := 100) (by omega); omega
      rw [hrep, ← List.map_append] at *
      generalize hcl : (List.take 61 ns).map absI ++ (if b = true then [0] else []) = cells
      have hnn : ∀ c ∈ cells, 0 ≤ c := by
        intro c hc
        rw [← hcl, List.mem_append] at hc
        rcases hc with h | h
        · obtain ⟨i, _, rfl⟩ := List.mem_map.mp h; exact absI_nn i
        · split at h
          · simp at h; omega
          · simp at h
      have hcl0 : 0 < cells.length ∧ cells.length ≤ 62 := by
        rw [← hcl, List.length_append, List.length_map, List.length_take]
        by_cases hb1 : b = true
        · rw [if_pos hb1]; simp; omega
        · rw [if_neg hb1]
          have : ns.length ≠ 0 := fun z => hb1 (hl0.mp z)
          simp; omega
      generalize hHC : upd (upd (upd H2 p1 (.lst [.int 0])) p2 (.lst (((if b = true then [0] else []) : List Int).map V.int))) C (.lst (cells.map V.int)) = HC
      have eC : HC C = some (.lst (cells.map V.int)) := by rw [← hHC]; exact upd_same
      have s0C : Same H HC := by rw [← hHC]; exact ((s02.trans (sameNew n1)).trans (sameNew n2)).trans (sameNew nC)
      refine ⟨.ref C, rfl, .ref C, rfl, C, rfl, ⟨_, SqL.of eC⟩, fun R nR => lc_list (xs := cells.map V.int)
        (fun j H3 => Same HC H3 ∧ H3 R = some (.lst (((cells.map restI).take j).map V.int))) ⟨sameNew nR, upd_same⟩ (fun j H3 _ h3 => SqL.of (h3.1 _ _ eC)) ?_ ?_⟩
      · rintro j x H3 hx ⟨s3, e3⟩
        rw [List.getElem?_map] at hx
        obtain ⟨z, hz, rfl⟩ := Option.map_eq_some_iff.mp hx
        refine ⟨rfl, .int z, rfl, .int z, rfl, _, _, rfl, rfl, ⟨by decide, by decide, by decide⟩, _, _, rfl, rfl, .inr ⟨_, rfl, _, _, rfl, rfl, .inr ⟨by split <;> decide, by split <;> decide⟩, _, e3, ?_, samePut s3 nR, ?_⟩⟩
        · rw [List.length_map, List.length_take, List.length_map]; exact small (by omega)
        · rw [upd_same, List.take_add_one, List.getElem?_map, hz]; simp [restI]
      · rintro H3 ⟨s3, e3⟩
        rw [List.length_map, List.take_of_length_le (by rw [List.length_map]; exact Nat.le_refl _)] at e3
        refine ⟨(show (3 : Nat) ≤ sizeLine by decide), fun st nst => q _ st C R ((s0C.trans s3).trans (sameNew nst)) ⟨upd_same, ⟨cells, cells.map restI, upNew nst (s3 _ _ eC), upNew nst e3, by rw [List.length_map], hcl0.1, by omega, ?_⟩, ne_of_none eC nR, ?_, ?_⟩⟩
        · intro x hx
          obtain ⟨c, hc, rfl⟩ := List.mem_map.mp hx
          exact restI_nn (hnn c hc)
        · exact (ne_of_none (s3 _ _ eC) nst).symm
        · exact (ne_of_none e3 nst).symm
def spOne (K : PySem.W.Frag) : Sp := fun vs H Q _ => ∃ (st c r l : Addr) (t : Nat) (xs : List V), vs = [.ref st, .ref l] ∧ DS H st c r t ∧ t < 1000000 ∧ H l = some (.lst xs) ∧ l ≠ st ∧ l ≠ r ∧ 0 < xs.length ∧ xs.length ≤ 1000 ∧
  ∀ (H' : Hp) (j : Nat) (x : V), xs[j]? = some x → DS H' st c r (t + 1) → Ext st r H H' → Q x H'
theorem ok_one {f fD : Addr} {fd fdD : FuncData} {k : Nat} (F : Fun K "_law_one" "_law_one" sOne f fd)
    (FD : Fun K "_law_next" "_law_next" sDraw fD fdD) (bD : Binds K fdD ["_law_deck_here", "_law_many"] []) (gD : mg "_law_next" = some (.ref fD)) (GD : FnOk P w K mg base CX0 1 fD fdD ["_law_deck_here", "_law_many"] spDraw)
    (ml : mg "len" = none) : FnOk P w K mg base CX0 (1 + k + 1) f fd ["_law_deck_here", "_law_items"] (spOne K) := by
  refine F.ok scOne (fun vs H Q E h => ?_) (fun cdv A outer s H vs Q E hr h => ?_)
  · obtain ⟨st, c, r, l, t, xs, rfl, _⟩ := h; rfl
  · obtain ⟨st, c, r, l, t, xs, rfl, hd, ht, hl, n1, n2, hp, hz, q⟩ := h
    refine ⟨_, pss_one (ps_ret (pe_ix ix_list (pv 1) (pe_call GD (hr.mono (by omega)) (by rfl) gD FD.kp bD .nil pass0 (pa_cons (pv 0) (pa_cons (pe_callB call_len_seq (by rfl) ml PySem.boot_len (pa_cons (pv 1) pa_nil)) pa_nil))) (fun _ _ => rfl))), ?_⟩
    refine ⟨.ref l, rfl, .ref st, rfl, .ref l, rfl, l, _, rfl, .inl (SqL.of hl), st, c, r, t, _, rfl, hd, ht, by omega, by omega, fun H1 d h0 h1 D1 X1 => ?_⟩
    have hj : d.toNat < xs.length := by omega
    have e : xs[d.toNat]? = some xs[d.toNat] := List.getElem?_eq_getElem hj
    refine ⟨l, xs, d, xs[d.toNat], rfl, rfl, SqL.of (X1 _ _ hl n1 n2), ?_, q _ _ _ e D1 X1⟩
    have := atI_nat e
    rwa [Int.toNat_of_nonneg h0] at this
end
end Pv

namespace Pv
open PySem PySem.Spec PyProof.Rows L2
abbrev sWhole : Stmt := topS 1
abbrev sWithin : Stmt := topS 2
abbrev sTupOf : Stmt := topS 3
theorem scWhole : FnScope ["value"] ["value"] (defScope sWhole) := ⟨rfl, rfl, rfl, by decide +kernel, rfl, by decide +kernel, by decide +kernel⟩
theorem scWithin : FnScope ["value", "least", "most"] ["value", "least", "most"] (defScope sWithin) := ⟨rfl, rfl, rfl, by decide +kernel, rfl, by decide +kernel, by decide +kernel⟩
theorem scTupOf : FnScope ["value", "least", "most"] ["value", "least", "most"] (defScope sTupOf) := ⟨rfl, rfl, rfl, by decide +kernel, rfl, by decide +kernel, by decide +kernel⟩

/-! what a value is, by its data -/
def wholeD (d : PyData) : Bool := isInt d && !isBool d
def withinD (a b : Int) : PyData → Bool
  | .int i => decide (a ≤ i ∧ i ≤ b)
  | _ => false
def tupOfD (a b : Int) : PyData → Bool
  | .tuple ds => decide (a ≤ (ds.length : Int) ∧ (ds.length : Int) ≤ b)
  | _ => false
def intsAll : List PyData → Option (List Int)
  | [] => some []
  | .int i :: r => (intsAll r).map (i :: ·)
  | _ :: _ => none
def intsOf : PyData → Option (List Int)
  | .tuple ds => intsAll ds
  | _ => none
theorem intsAll_ints : ∀ row : List Int, intsAll (row.map PyData.int) = some row
  | [] => rfl
  | i :: r => by simp [intsAll, intsAll_ints r]
theorem intsAll_eq : ∀ {ds : List PyData} {row : List Int}, intsAll ds = some row → ds = row.map PyData.int
  | [], row, h => by simp [intsAll] at h; subst h; rfl
  | d :: ds, row, h => by
    cases d <;> simp [intsAll] at h
    obtain ⟨r, h1, rfl⟩ := h
    rw [intsAll_eq h1]; rfl
theorem within_ints : ∀ {ds : List PyData} {a b : Int}, ds.all (withinD a b) = true → ∃ row : List Int, ds = row.map PyData.int ∧ row.all (fun x => decide (a ≤ x ∧ x ≤ b)) = true
  | [], _, _, _ => ⟨[], rfl, rfl⟩
  | d :: ds, a, b, h => by
    rw [List.all_cons, Bool.and_eq_true] at h
    obtain ⟨row, e, h2⟩ := within_ints h.2
    cases d with
    | int i => exact ⟨i :: row, by rw [e]; rfl, by rw [List.all_cons, Bool.and_eq_true]; exact ⟨h.1, h2⟩⟩
    | _ => simp [withinD] at h
section
variable {P : Program} {w : World} {K : PySem.W.Frag} {mg : Str → Option Value} {base : Heap}
def spWhole (K : PySem.W.Frag) : Sp := fun vs H Q _ => ∃ (st r : Addr) (v : V) (d : PyData), vs = [v] ∧ Dq K st r H v d ∧ Q (.bl (wholeD d)) H
theorem ok_whole {f : Addr} {fd : FuncData} {k : Nat} (F : Fun K "is_whole" "is_whole" sWhole f fd) (mi : mg "isinstance" = none) (mint : mg "int" = none) (mb : mg "bool" = none) :
    FnOk P w K mg base CX0 (k + 1) f fd ["value"] (spWhole K) := by
  refine F.ok scWhole (fun vs H Q E h => ?_) (fun cdv A outer s H vs Q E hr h => ?_)
  · obtain ⟨st, r, v, d, rfl, _⟩ := h; rfl
  · obtain ⟨st, r, v, d, rfl, hd, q⟩ := h
    refine ⟨_, pss_one (ps_ret (pe_and (pe_callB call_isi (by rfl) mi (by decide +kernel) (pa_cons (pv 0) (pa_cons (pe_bltn (v := .ty "int") (by rfl) mint (by decide +kernel) rfl) pa_nil)))
      (pe_one (pe_not (pe_callB call_isi (by rfl) mi (by decide +kernel) (pa_cons (pv 0) (pa_cons (pe_bltn (v := .ty "bool") (by rfl) mb (by decide +kernel) rfl) pa_nil))))))), ?_⟩
    refine ⟨v, rfl, v, .ty "int", _, _, _, rfl, .ty _, hd.ty, kit_int d, _, rfl, ite2 (fun h1 => ?_) (fun h1 => ?_)⟩
    · refine ⟨v, rfl, v, .ty "bool", _, _, _, rfl, .ty _, hd.ty, kit_bool d, _, rfl, ?_⟩
      unfold wholeD at q
      rw [h1, Bool.true_and] at q
      exact q
    · unfold wholeD at q
      rw [Bool.eq_false_iff.mpr h1, Bool.false_and] at q
      exact q
def spWithin (K : PySem.W.Frag) : Sp := fun vs H Q _ => ∃ (st r : Addr) (v : V) (d : PyData) (a b : Int), vs = [v, .int a, .int b] ∧ Dq K st r H v d ∧ Q (.bl (withinD a b d)) H
theorem ok_within {f fW : Addr} {fd fdW : FuncData} {k : Nat} (F : Fun K "is_within" "is_within" sWithin f fd) (FW : Fun K "is_whole" "is_whole" sWhole fW fdW) (bW : Binds K fdW ["value"] []) (gW : mg "is_whole" = some (.ref fW))
    (GW : FnOk P w K mg base CX0 1 fW fdW ["value"] (spWhole K)) : FnOk P w K mg base CX0 (1 + k + 1) f fd ["value", "least", "most"] (spWithin K) := by
  refine F.ok scWithin (fun vs H Q E h => ?_) (fun cdv A outer s H vs Q E hr h => ?_)
  · obtain ⟨st, r, v, d, a, b, rfl, _⟩ := h; rfl
  · obtain ⟨st, r, v, d, a, b, rfl, hd, q⟩ := h
    refine ⟨_, pss_one (ps_ret (pe_and (pe_call GW (hr.mono (by omega)) (by rfl) gW FW.kp bW .nil pass0 (pa_cons (pv 0) pa_nil)) (pe_one (pe_chain op_le op_le (pv 1) (pv 0) (pv 2))))), ?_⟩
    refine ⟨v, rfl, st, r, v, d, rfl, hd, _, rfl, ite2 (fun h1 => ?_) (fun h1 => ?_)⟩
    · cases d with
      | int i =>
        cases hd
        refine ⟨.int a, rfl, .int i, rfl, _, _, rfl, rfl, _, rfl, ite2 (fun h2 => ?_) (fun h2 => ?_)⟩
        · refine ⟨.int b, rfl, _, _, rfl, rfl, ?_⟩
          have h2' : a ≤ i := of_decide_eq_true h2
          simpa [withinD, h2'] using q
        · have h2' : ¬ a ≤ i := fun z => h2 (decide_eq_true z)
          simpa [withinD, h2'] using q
      | _ => simp [wholeD, isInt, isBool] at h1
    · cases d with
      | int i => simp [wholeD, isInt, isBool] at h1
      | _ => exact q
def spTupOf (K : PySem.W.Frag) : Sp := fun vs H Q _ => ∃ (st r : Addr) (v : V) (d : PyData) (a b : Int), vs = [v, .int a, .int b] ∧ Dq K st r H v d ∧ Q (.bl (tupOfD a b d)) H
theorem ok_tupOf {f : Addr} {fd : FuncData} {k : Nat} (F : Fun K "is_tuple_of" "is_tuple_of" sTupOf f fd) (mi : mg "isinstance" = none) (mt : mg "tuple" = none) (ml : mg "len" = none) :
    FnOk P w K mg base CX0 (k + 1) f fd ["value", "least", "most"] (spTupOf K) := by
  refine F.ok scTupOf (fun vs H Q E h => ?_) (fun cdv A outer s H vs Q E hr h => ?_)
  · obtain ⟨st, r, v, d, a, b, rfl, _⟩ := h; rfl
  · obtain ⟨st, r, v, d, a, b, rfl, hd, q⟩ := h
    refine ⟨_, pss_one (ps_ret (pe_and (pe_callB call_isi (by rfl) mi (by decide +kernel) (pa_cons (pv 0) (pa_cons (pe_bltn (v := .ty "tuple") (by rfl) mt (by decide +kernel) rfl) pa_nil)))
      (pe_one (pe_chain op_le op_le (pv 1) (pe_callB call_len_seq (by rfl) ml PySem.boot_len (pa_cons (pv 0) pa_nil)) (pv 2))))), ?_⟩
    refine ⟨v, rfl, v, .ty "tuple", _, _, _, rfl, .ty _, hd.ty, kit_tup d, _, rfl, ite2 (fun h1 => ?_) (fun h1 => ?_)⟩
    · cases d with
      | tuple ds =>
        cases hd with
        | @tup p xs _ hT ha =>
          refine ⟨.int a, rfl, .ref p, rfl, p, xs, rfl, .inr hT, _, _, rfl, rfl, _, rfl, ite2 (fun h2 => ?_) (fun h2 => ?_)⟩
          · refine ⟨.int b, rfl, _, _, rfl, rfl, ?_⟩
            have h2' : a ≤ (xs.length : Int) := of_decide_eq_true h2
            simpa [tupOfD, ← DqAll.len ha, h2'] using q
          · have h2' : ¬ a ≤ (xs.length : Int) := fun z => h2 (decide_eq_true z)
            simpa [tupOfD, ← DqAll.len ha, h2'] using q
      | _ => simp [isTup] at h1
    · cases d with
      | tuple ds => simp [isTup] at h1
      | _ => exact q
end
end Pv

namespace Pv
open PySem PySem.Spec PyProof.Rows L2
abbrev sMix : Stmt := topS 25
abbrev sAmo : Stmt := topS 26
theorem scMix : FnScope ["_law_deck_here", "_law_items", "_law_left", "_law_found"] ["_law_deck_here", "_law_items"] (defScope sMix) := ⟨rfl, rfl, rfl, by decide +kernel, rfl, by decide +kernel, by decide +kernel⟩
theorem scAmo : FnScope ["_law_deck_here", "_law_far", "_law_near"] ["_law_deck_here", "_law_far"] (defScope sAmo) := ⟨rfl, rfl, rfl, by decide +kernel, rfl, by decide +kernel, by decide +kernel⟩
theorem lay_ints : ∀ ns : List Int, PyData.canLayAll0 (ns.map PyData.int) = true
  | [] => by simp [PyData.canLayAll0]
  | n :: ns => by simp [PyData.canLayAll0, PyData.canLay0, lay_ints ns]
theorem dep_ints : ∀ ns : List Int, PyData.depthAll (ns.map PyData.int) = 0
  | [] => by simp [PyData.depthAll]
  | n :: ns => by simp [PyData.depthAll, PyData.depth, dep_ints ns]
theorem shaped_ints (ns : List Int) : SeqAt.shaped (.list (ns.map PyData.int)) = true := by
  show (PyData.canLay0 (.list (ns.map PyData.int)) && decide (PyData.depth (.list (ns.map PyData.int)) ≤ 64)) = true
  rw [Bool.and_eq_true]
  refine ⟨by simp only [PyData.canLay0]; exact lay_ints ns, decide_eq_true ?_⟩
  simp only [PyData.depth, dep_ints]; omega
theorem eqv_empty (ds : List PyData) : PyData.eqv (.list ds) (.list []) = ds.isEmpty := by
  cases ds <;> simp [PyData.eqv, PyData.eqvAll]
section
variable {P : Program} {w : World} {K : PySem.W.Frag} {mg : Str → Option Value} {base : Heap}
theorem perm_erase : ∀ (l : List Int) (k : Nat) (h : k < l.length), (l[k] :: l.eraseIdx k).Perm l
  | [], _, h => by simp at h
  | a :: l, 0, _ => by simp
  | a :: l, k + 1, h => by
    have ih := perm_erase l k (by simpa using h)
    simp only [List.getElem_cons_succ, List.eraseIdx_cons_succ]
    exact (List.Perm.swap _ _ _).trans (List.Perm.cons _ ih)
theorem nodup_step {ms l : List Int} {k : Nat} (h : k < l.length) (hn : (ms ++ l).Nodup) : ((ms ++ [l[k]]) ++ l.eraseIdx k).Nodup := by
  rw [List.append_assoc]
  exact (List.Perm.append_left ms (perm_erase l k h)).symm.nodup hn
def spMix (K : PySem.W.Frag) : Sp := fun vs H Q _ => ∃ (st c r l : Addr) (t : Nat) (ns : List Int), vs = [.ref st, .ref l] ∧ DS H st c r t ∧ t + 50 ≤ 1000000 ∧ H l = some (.lst (ns.map V.int)) ∧ ns.length ≤ 50 ∧
  ∀ (H' : Hp) (p : Addr) (ms : List Int), (∀ x ∈ ms, x ∈ ns) → (ns.Nodup → ms.Nodup) → ms.length = ns.length → H' p = some (.lst (ms.map V.int)) → p ≠ st → p ≠ c → p ≠ r → DS H' st c r (t + ns.length) → Ext st r H H' → Q (.ref p) H'
set_option maxHeartbeats 2000000 in
theorem ok_mix {f fD : Addr} {fd fdD : FuncData} {k : Nat} (F : Fun K "_law_mixed" "_law_mixed" sMix f fd)
    (FD : Fun K "_law_next" "_law_next" sDraw fD fdD) (bD : Binds K fdD ["_law_deck_here", "_law_many"] []) (gD : mg "_law_next" = some (.ref fD)) (GD : FnOk P w K mg base CX0 1 fD fdD ["_law_deck_here", "_law_many"] spDraw)
    (mli : mg "list" = none) (ml : mg "len" = none) : FnOk P w K mg base CX0 (1 + k + 1) f fd ["_law_deck_here", "_law_items"] (spMix K) := by
  refine F.ok scMix (fun vs H Q E h => ?_) (fun cdv A outer s H vs Q E hr h => ?_)
  · obtain ⟨st, c, r, l, t, ns, rfl, _⟩ := h; rfl
  · obtain ⟨st, c, r, l, t, ns, rfl, hd, ht, hl, hn, q⟩ := h
    have hu64 : (A.deeper (envOfC "_law_mixed" (defScope sMix) s.heap.objs.size f cdv)).units + 64 < cLine := by have := hr.un; omega
    refine ⟨_, pss_cons (ps_par (i := 2) (j := 3) rfl scMix.nd rfl rfl (by decide) rfl rfl (pa_cons (pe_callTy call_list_of (by rfl) mli (by decide +kernel) (pa_cons (pv 1) pa_nil)) (pa_cons (pe_lst pa_nil) pa_nil)) rfl)
      (pss_cons (ps_while PassesOwn.never (pt_cmpR (op_neD hu64) (pv 2) (pe_lst pa_nil) (nomark _))
        (pss_one (ps_expr (pe_bm PySem.F.plainAttrs_list PySem.F.slot_list_append PySem.F.type_list_append mt_append (pv 3) (pa_cons
          (pe_bm PySem.F.plainAttrs_list PySem.F.slot_list_pop PySem.F.type_list_pop mt_popAt (pv 2) (pa_cons (pe_call GD (hr.mono (by omega)) (by rfl) gD FD.kp bD .nil pass0 (pa_cons (pv 0) (pa_cons (pe_callB call_len_seq (by rfl) ml PySem.boot_len (pa_cons (pv 2) pa_nil)) pa_nil))) pa_nil)) pa_nil)))))
      (pss_one (ps_ret (pv 3)))), ?_⟩
    refine ⟨.ref l, rfl, l, _, rfl, .inl (SqL.of hl), fun Le nLe => ⟨Nat.zero_le _, fun Fo nFo => ⟨_, _, rfl, ?_⟩⟩⟩
    have oLe := hd.off nLe
    have d1 := hd.new nLe (o := .lst (ns.map V.int))
    have oFo := d1.off nFo
    have fFo : H Fo = none := freeOf nFo
    have nLF : Le ≠ Fo := ne_of_none upd_same nFo
    refine ⟨fun m σ H2 => ∃ (ls ms : List Int) (t2 : Nat), σ = [some (.ref st), some (.ref l), some (.ref Le), some (.ref Fo)] ∧ ls.length = m ∧ DS H2 st c r t2 ∧ t2 = t + ms.length ∧ Ext st r H H2 ∧
        H2 Le = some (.lst (ls.map V.int)) ∧ H2 Fo = some (.lst (ms.map V.int)) ∧ ls.length + ms.length = ns.length ∧ (∀ x ∈ ls, x ∈ ns) ∧ (∀ x ∈ ms, x ∈ ns) ∧ (ns.Nodup → (ms ++ ls).Nodup),
      ⟨ns.length, ns, [], t, rfl, rfl, d1.new nFo, rfl, (Ext.of (sameNew nLe)).trans (Ext.of (sameNew nFo)), upNew nFo upd_same, upd_same, rfl, fun x h => h, fun x h => by simp at h, fun h => by simpa using h⟩, ?_⟩
    rintro m σ H2 ⟨ls, ms, t2, rfl, rfl, d2, ht2, x2, eL, eF, hlen, bl, bm, bn⟩
    refine ⟨.ref Le, rfl, Nat.zero_le _, fun p np => ⟨.list (ls.map PyData.int), .list [], .lst (SqL.of (upNew np eL)) (dp_ints ls), .lst (SqL.of upd_same) .nil, shaped_ints ls, by decide, _, rfl, ?_⟩⟩
    rw [eqv_empty]
    have oN := d2.off np
    have eL2 := upNew np (o := .lst []) eL
    have eF2 := upNew np (o := .lst []) eF
    cases ls with
    | nil =>
      have hml : ms.length = ns.length := by simpa using hlen
      have dz : DS (upd H2 p (.lst [])) st c r (t + ns.length) := by rw [← hml, ← ht2]; exact d2.new np
      exact ⟨.ref Fo, rfl, q _ Fo ms bm (fun z => by simpa using bn z) hml eF2 oFo.1 oFo.2.1 oFo.2.2 dz (x2.trans (Ext.of (sameNew np)))⟩
    | cons a ls' =>
      have hpos : 0 < (a :: ls').length := by simp
      refine ⟨fun σ' H' => ∃ (ls2 ms2 : List Int) (t2 : Nat), σ' = [some (.ref st), some (.ref l), some (.ref Le), some (.ref Fo)] ∧ ls2.length = ls'.length ∧ DS H' st c r t2 ∧ t2 = t + ms2.length ∧ Ext st r H H' ∧
        H' Le = some (.lst (ls2.map V.int)) ∧ H' Fo = some (.lst (ms2.map V.int)) ∧ ls2.length + ms2.length = ns.length ∧ (∀ x ∈ ls2, x ∈ ns) ∧ (∀ x ∈ ms2, x ∈ ns) ∧ (ns.Nodup → (ms2 ++ ls2).Nodup), ?_, ?_⟩
      · rintro σ' H' ⟨ls2, ms2, t3, e1, e2, r3⟩
        exact ⟨ls'.length, by simp, ls2, ms2, t3, e1, e2, r3⟩
      · refine ⟨.ref Fo, rfl, .inl ⟨rfl, _, SqL.of eF2⟩, .ref Le, rfl, .inl ⟨rfl, _, SqL.of eL2⟩, .ref st, rfl, .ref Le, rfl, Le, _, rfl, .inl (SqL.of eL2), st, c, r, t2, _, rfl, d2.new np, by omega, by rw [List.length_map]; omega, by rw [List.length_map]; omega, fun H3 d h0 h1 D3 X3 => ?_⟩
        have eL3 := X3 _ _ eL2 oLe.1 oLe.2.2
        have eF3 := X3 _ _ eF2 oFo.1 oFo.2.2
        rw [List.length_map] at h1
        have hk : d.toNat < (a :: ls').length := by omega
        have eF4 : (upd H3 Le (.lst (((a :: ls').map V.int).eraseIdx d.toNat))) Fo = some (.lst (ms.map V.int)) := by rw [upd_ne nLF.symm]; exact eF3
        refine ⟨Le, _, d, d.toNat, .int (a :: ls')[d.toNat], rfl, rfl, eL3, by omega, by simp at hlen h1; omega, seqIndex_of h0 (by rw [List.length_map]; exact h1), by rw [List.getElem?_map, List.getElem?_eq_getElem hk]; rfl, Fo, _, _, rfl, rfl, eF4, ?_, ?_⟩
        · rw [List.length_map]; exact small (by simp at hlen; omega)
        refine ⟨(a :: ls').eraseIdx d.toNat, ms ++ [(a :: ls')[d.toNat]], t2 + 1, rfl, ?_, (D3.put oLe.1 oLe.2.1 oLe.2.2).put oFo.1 oFo.2.1 oFo.2.2, by simp; omega, ExtPut (ExtPut ((x2.trans (Ext.of (sameNew np))).trans X3) nLe) fFo, ?_, ?_, ?_, ?_, ?_, fun z => nodup_step hk (bn z)⟩
        · rw [List.length_eraseIdx_of_lt hk]; simp
        · rw [upd_ne nLF, upd_same, erase_map]
        · rw [upd_same, List.map_append]; rfl
        · rw [List.length_eraseIdx_of_lt hk]; simp at hlen ⊢; omega
        · exact fun x hx => bl x (List.mem_of_mem_eraseIdx hx)
        · intro x hx
          rw [List.mem_append] at hx
          rcases hx with h | h
          · exact bm x h
          · simp only [List.mem_singleton] at h; rw [h]; exact bl _ (List.getElem_mem hk)
def spAmo (K : PySem.W.Frag) : Sp := fun vs H Q _ => ∃ (st c r : Addr) (t : Nat) (far : Int), vs = [.ref st, .int far] ∧ DS H st c r t ∧ t + 10 ≤ 1000000 ∧
  ∀ (H' : Hp) (d : Int) (t' : Nat), 1 ≤ d → d ≤ 10 ^ 12 → DS H' st c r t' → t' ≤ t + 5 → Ext st r H H' → Q (.int d) H'
set_option maxHeartbeats 2000000 in
theorem ok_amo {f fD fO : Addr} {fd fdD fdO : FuncData} {k : Nat} (F : Fun K "_law_amount" "_law_amount" sAmo f fd)
    (FD : Fun K "_law_next" "_law_next" sDraw fD fdD) (bD : Binds K fdD ["_law_deck_here", "_law_many"] []) (gD : mg "_law_next" = some (.ref fD)) (GD : FnOk P w K mg base CX0 1 fD fdD ["_law_deck_here", "_law_many"] spDraw)
    (FO : Fun K "_law_one" "_law_one" sOne fO fdO) (bO : Binds K fdO ["_law_deck_here", "_law_items"] []) (gO : mg "_law_one" = some (.ref fO)) (GO : FnOk P w K mg base CX0 2 fO fdO ["_law_deck_here", "_law_items"] (spOne K)) :
    FnOk P w K mg base CX0 (2 + k + 1) f fd ["_law_deck_here", "_law_far"] (spAmo K) := by
  refine F.ok scAmo (fun vs H Q E h => ?_) (fun cdv A outer s H vs Q E hr h => ?_)
  · obtain ⟨st, c, r, t, far, rfl, _⟩ := h; rfl
  · obtain ⟨st, c, r, t, far, rfl, hd, ht, q⟩ := h
    refine ⟨_, pss_cons (ps_if (pt_cmpR op_eq (pv 1) pe_int (nomark _)) (pss_one (ps_ret (pe_op op_add pe_int (pe_call GD (hr.mono (by omega)) (by rfl) gD FD.kp bD .nil pass0 (pa_cons (pv 0) (pa_cons
          (pe_call GO (hr.mono (by omega)) (by rfl) gO FO.kp bO .nil pass0 (pa_cons (pv 0) (pa_cons (pe_lst (pa_cons pe_int (pa_cons pe_int (pa_cons pe_int pa_nil)))) pa_nil))) pa_nil)))))) pss_nil)
      (pss_cons (ps_set (i := 2) scAmo.nd rfl (.inl rfl) (pe_op op_sub (pe_op op_pow pe_int pe_int) (pe_call GD (hr.mono (by omega)) (by rfl) gD FD.kp bD .nil pass0 (pa_cons (pv 0) (pa_cons pe_int pa_nil)))))
      (pss_one (ps_ret (pe_call GO (hr.mono (by omega)) (by rfl) gO FO.kp bO .nil pass0 (pa_cons (pv 0) (pa_cons (pe_lst (pa_cons (pe_op op_add pe_int (pe_call GD (hr.mono (by omega)) (by rfl) gD FD.kp bD .nil pass0 (pa_cons (pv 0) (pa_cons pe_int pa_nil))))
        (pa_cons (pe_op op_pow pe_int pe_int) (pa_cons (pv 2) (pa_cons (pe_op op_add pe_int (pe_call GD (hr.mono (by omega)) (by rfl) gD FD.kp bD .nil pass0 (pa_cons (pv 0) (pa_cons (pe_op op_pow pe_int pe_int) pa_nil)))) pa_nil))))) pa_nil)))))), ?_⟩
    refine ⟨.int far, rfl, rfl, _, rfl, ite2 (fun h1 => ?_) (fun h1 => ?_)⟩
    · refine ⟨.ref st, rfl, .ref st, rfl, (show (3 : Nat) ≤ sizeLine by decide), fun L nL => ⟨st, c, r, L, t, _, rfl, hd.new nL, by omega, upd_same, (hd.off nL).1, (hd.off nL).2.2, by decide, by decide, fun H1 j x hx D1 X1 => ?_⟩⟩
      obtain ⟨m, rfl, hm1, hm2⟩ : ∃ m : Int, x = .int m ∧ 1 ≤ m ∧ m ≤ 9 := by
        match j, hx with
        | 0, hx => cases hx; exact ⟨2, rfl, by decide, by decide⟩
        | 1, hx => cases hx; exact ⟨3, rfl, by decide, by decide⟩
        | 2, hx => cases hx; exact ⟨9, rfl, by decide, by decide⟩
        | n + 3, hx => simp at hx
      refine ⟨st, c, r, t + 1, m, rfl, D1, by omega, by omega, by omega, fun H2 d h0 h2 D2 X2 => ⟨_, _, rfl, rfl, ?_⟩⟩
      exact q _ _ (t + 2) (by omega) (by omega) D2 (by omega) (((Ext.of (sameNew nL)).trans X1).trans X2)
    · refine ⟨_, _, rfl, rfl, ⟨by decide, by decide, by decide⟩, .ref st, rfl, st, c, r, t, _, rfl, hd, by omega, by decide, by decide, fun H1 d1 h10 h11 D1 X1 => ⟨_, _, rfl, rfl, ?_⟩⟩
      refine ⟨.ref st, rfl, .ref st, rfl, st, c, r, t + 1, _, rfl, D1, by omega, by decide, by decide, fun H2 d2 h20 h21 D2 X2 => ⟨_, _, rfl, rfl, ?_⟩⟩
      refine ⟨_, _, rfl, rfl, ⟨by decide, by decide, by decide⟩, _, rfl, .ref st, rfl, _, _, rfl, rfl, ⟨by decide, by decide, by decide⟩, st, c, r, t + 2, _, rfl, D2, by omega, by decide, by decide, fun H3 d3 h30 h31 D3 X3 => ⟨_, _, rfl, rfl, ?_⟩⟩
      refine ⟨(show (4 : Nat) ≤ sizeLine by decide), fun L nL => ⟨st, c, r, L, t + 3, _, rfl, D3.new nL, by omega, upd_same, (D3.off nL).1, (D3.off nL).2.2, (show (0 : Nat) < 4 by decide), (show (4 : Nat) ≤ 1000 by decide), fun H4 j x hx D4 X4 => ?_⟩⟩
      have XX : Ext st r H H4 := (((X1.trans X2).trans X3).trans (Ext.of (sameNew nL))).trans X4
      have t12 : (10 : Int) ^ (12 : Int).toNat = 1000000000000 := by decide
      match j, hx with
      | 0, hx => cases hx; exact q _ _ (t + 4) (by omega) (by omega) D4 (by omega) XX
      | 1, hx => cases hx; exact q _ _ (t + 4) (by decide) (by decide) D4 (by omega) XX
      | 2, hx => cases hx; exact q _ _ (t + 4) (by rw [t12]; omega) (by rw [t12]; omega) D4 (by omega) XX
      | 3, hx => cases hx; rw [t12] at h31; exact q _ _ (t + 4) (by omega) (by omega) D4 (by omega) XX
      | n + 4, hx => simp at hx
end
end Pv

namespace Pv
open PySem PySem.Spec PyProof.Rows L2
abbrev sInst : Stmt := topS 27
theorem scInst : FnScope ["_law_deck_here", "_law_posts", "_law_groups", "_law_far", "_law_many", "_law_rows", "_law_k", "_law_wish", "_law_sizes", "_law_post", "_law_near", "_law_count"] ["_law_deck_here", "_law_posts", "_law_groups", "_law_far"] (defScope sInst) := ⟨rfl, rfl, rfl, by decide +kernel, rfl, by decide +kernel, by decide +kernel⟩
theorem upTo_nodup (n : Nat) : (upTo n).Nodup := by
  unfold upTo
  show List.Pairwise _ _
  rw [List.pairwise_map]
  exact List.Pairwise.imp (fun h hab => h (Int.ofNat.inj hab)) (List.nodup_range (n := n))
theorem lay_grps : ∀ gs : List Gp, PyData.canLayAll0 (gs.map dGrp) = true ∧ PyData.depthAll (gs.map dGrp) ≤ 2
  | [] => by simp [PyData.canLayAll0, PyData.depthAll]
  | g :: gs => by
    obtain ⟨h1, h2⟩ := lay_grps gs
    have l := lay_ints g.1
    have d := dep_ints g.1
    constructor
    · simp [PyData.canLayAll0, PyData.canLay0, dGrp, dI, l, h1]
    · simp only [List.map_cons, PyData.depthAll, PyData.depth, dGrp, dI, d]
      omega
theorem shaped_grps (gs : List Gp) : SeqAt.shaped (.list (gs.map dGrp)) = true := by
  obtain ⟨h1, h2⟩ := lay_grps gs
  show (PyData.canLay0 (.list (gs.map dGrp)) && decide (PyData.depth (.list (gs.map dGrp)) ≤ 64)) = true
  rw [Bool.and_eq_true]
  refine ⟨by simp only [PyData.canLay0]; exact h1, decide_eq_true ?_⟩
  simp only [PyData.depth]; omega
theorem shaped_dI (ns : List Int) : SeqAt.shaped (dI ns) = true := by
  show (PyData.canLay0 (dI ns) && decide (PyData.depth (dI ns) ≤ 64)) = true
  rw [Bool.and_eq_true]
  refine ⟨by simp only [dI, PyData.canLay0]; exact lay_ints ns, decide_eq_true ?_⟩
  simp only [dI, PyData.depth, dep_ints]; omega
theorem eqv_ints : ∀ a b : List Int, PyData.eqv (dI a) (dI b) = decide (a = b)
  | [], [] => by simp [dI, PyData.eqv, PyData.eqvAll]
  | [], y :: b => by simp [dI, PyData.eqv, PyData.eqvAll]
  | x :: a, [] => by simp [dI, PyData.eqv, PyData.eqvAll]
  | x :: a, y :: b => by
    have ih := eqv_ints a b
    simp only [dI, PyData.eqv] at ih
    simp only [dI, PyData.eqv, List.map_cons, PyData.eqvAll, ih]
    by_cases h1 : x = y
    · subst h1; simp
    · simp [h1]
section
variable {P : Program} {w : World} {K : PySem.W.Frag} {mg : Str → Option Value} {base : Heap}
/-- wish[:1] == (post,): the list's first -/
theorem first_eq {H : Hp} {a : Addr} {ps : List Int} (hP : SqT K H a (ps.map V.int)) {Q : VK} (h : ∀ (H' : Hp) (b : Addr), Same H H' → SqT K H' b ((ps.take 1).map V.int) → Q (.ref b) H') : rSlA K (.ref a) none (some 1) H Q := by
  have hcut : cutV (ps.map V.int) none (some 1) = (ps.take 1).map V.int := by rw [List.map_take]; exact cut_to _ 1
  refine ⟨a, _, rfl, hP, fun hw => ?_, fun _ p np => ?_⟩
  · refine h H a (Same.refl _) ?_
    have e : (ps.take 1).map V.int = ps.map V.int := by
      rw [← hcut]
      unfold cutV
      rw [hw.1, hw.2, List.drop_zero, Nat.sub_zero, List.take_length]
    rw [e]; exact hP
  · refine h _ p (sameNew np) (SqT.of ?_)
    rw [upd_same, hcut]
def spInst (K : PySem.W.Frag) : Sp := fun vs H Q _ => ∃ (st c r : Addr) (t : Nat) (gm far : Int), vs = [.ref st, .int 6, .int gm, .int far] ∧ DS H st c r t ∧ t + 500 ≤ 1000000 ∧ 1 ≤ gm ∧ gm ≤ 10 ∧
  ∀ (H' : Hp) (p : Addr) (t' : Nat) (cs : List Int) (gs : List Gp), DS H' st c r t' → t' ≤ t + 500 → Ext st r H H' → Dp K H' (.ref p) (dInst cs gs) → InsOk cs gs → (∀ g ∈ gs, g.1.Nodup) → Q (.ref p) H'
set_option maxHeartbeats 8000000 in
theorem ok_inst {f fD fO fM fA : Addr} {fd fdD fdO fdM fdA : FuncData} {k : Nat} (F : Fun K "_law_instance" "_law_instance" sInst f fd)
    (FD : Fun K "_law_next" "_law_next" sDraw fD fdD) (bD : Binds K fdD ["_law_deck_here", "_law_many"] []) (gD : mg "_law_next" = some (.ref fD)) (GD : FnOk P w K mg base CX0 1 fD fdD ["_law_deck_here", "_law_many"] spDraw)
    (FO : Fun K "_law_one" "_law_one" sOne fO fdO) (bO : Binds K fdO ["_law_deck_here", "_law_items"] []) (gO : mg "_law_one" = some (.ref fO)) (GO : FnOk P w K mg base CX0 2 fO fdO ["_law_deck_here", "_law_items"] (spOne K))
    (FM : Fun K "_law_mixed" "_law_mixed" sMix fM fdM) (bM : Binds K fdM ["_law_deck_here", "_law_items"] []) (gM : mg "_law_mixed" = some (.ref fM)) (GM : FnOk P w K mg base CX0 2 fM fdM ["_law_deck_here", "_law_items"] (spMix K))
    (FA : Fun K "_law_amount" "_law_amount" sAmo fA fdA) (bA : Binds K fdA ["_law_deck_here", "_law_far"] []) (gA : mg "_law_amount" = some (.ref fA)) (GA : FnOk P w K mg base CX0 3 fA fdA ["_law_deck_here", "_law_far"] (spAmo K))
    (mt : mg "tuple" = none) (mr : mg "range" = none) (mli : mg "list" = none) (ms : mg "sum" = none) (mmx : mg "max" = none) (mmn : mg "min" = none) :
    FnOk P w K mg base CX0 (3 + k + 1) f fd ["_law_deck_here", "_law_posts", "_law_groups", "_law_far"] (spInst K) := by
  refine F.ok scInst (fun vs H Q E h => ?_) (fun cdv A outer s H vs Q E hr h => ?_)
  · obtain ⟨st, c, r, t, gm, m, rfl, _⟩ := h; rfl
  · obtain ⟨st, c, r, t, gm, far, rfl, hd, ht, hgm1, hgm2, q⟩ := h
    have hu64 : (A.deeper (envOfC "_law_instance" (defScope sInst) s.heap.objs.size f cdv)).units + 64 < cLine := by have := hr.un; omega
    refine ⟨_, pss_cons (ps_set (i := 4) scInst.nd rfl (.inl rfl) (pe_op op_add pe_int (pe_call GD (hr.mono (by omega)) (by rfl) gD FD.kp bD .nil pass0 (pa_cons (pv 0) (pa_cons (pv 1) pa_nil)))))
      (pss_cons (ps_set (i := 5) scInst.nd rfl (.inl rfl) (pe_lst pa_nil))
      (pss_cons (ps_for PassesOwn.never rfl (pi_range1 (by rfl) mr (pa_cons (pe_op op_add pe_int (pe_call GD (hr.mono (by omega)) (by rfl) gD FD.kp bD .nil pass0 (pa_cons (pv 0) (pa_cons (pv 2) pa_nil)))) pa_nil)) (pg_name (i := 6) scInst.nd rfl (.inl rfl))
        (pss_cons (ps_set (i := 7) scInst.nd rfl (.inl rfl) (pe_slice sl_list (pe_call GM (hr.mono (by omega)) (by rfl) gM FM.kp bM .nil pass0 (pa_cons (pv 0) (pa_cons (pe_listRg rfl (by rfl) mli (prg_1 (by rfl) mr (pv 4))) pa_nil))) po_none
            (po_some (pe_call GD (hr.mono (by omega)) (by rfl) gD FD.kp bD .nil pass0 (pa_cons (pv 0) (pa_cons (pe_op op_add (pv 4) pe_int) pa_nil))))))
        (C8.pss_cut (ps_if (PW.pt (pw_and (pt_cmpR (op_neD hu64) (pv 5) (pe_lst pa_nil) (nomark _)) (pw_and1 (pt_cmpR op_eq (pe_call GD (hr.mono (by omega)) (by rfl) gD FD.kp bD .nil pass0 (pa_cons (pv 0) (pa_cons pe_int pa_nil))) pe_int (nomark _)))))
            (pss_one (ps_set (i := 7) scInst.nd rfl (.inl rfl) (pe_callTy call_list_of (by rfl) mli (by decide +kernel) (pa_cons (pe_ix ix_tup (pe_call GO (hr.mono (by omega)) (by rfl) gO FO.kp bO .nil pass0 (pa_cons (pv 0) (pa_cons (pv 5) pa_nil))) pe_int (fun _ _ => rfl)) pa_nil)))) pss_nil)
        (pss_one (ps_expr (pe_bm PySem.F.plainAttrs_list PySem.F.slot_list_append PySem.F.type_list_append mt_append (pv 5) (pa_cons (pe_tup (pa_cons (pe_callTy call_tuple_of (by rfl) mt (by decide +kernel) (pa_cons (pv 7) pa_nil))
          (pa_cons (pe_call GA (hr.mono (by omega)) (by rfl) gA FA.kp bA .nil pass0 (pa_cons (pv 0) (pa_cons (pv 3) pa_nil))) pa_nil))) pa_nil)))))))
      (pss_cons (ps_set (i := 8) scInst.nd rfl (.inl rfl) (pe_lst pa_nil))
      (pss_cons (ps_for PassesOwn.never rfl (pi_range1 (by rfl) mr (pa_cons (pv 4) pa_nil)) (pg_name (i := 9) scInst.nd rfl (.inr rfl))
        (pss_cons (ps_set (i := 10) scInst.nd rfl (.inl rfl) (pe_op op_sub (pe_op op_add (pe_callB (cr_sum rfl) (by rfl) ms (by decide +kernel) (pa_cons
            (pe_lc (own := [("_law_wish", 7), ("_law_count", 11)]) (g := gTup K 2 (gCons (gName 7) (gCons (gName 11) gNil))) (tt := tTest (tOp (rEqD K) (tSl (rSlA K) (tVar 7) tNoPart (tPart (tC (.int 1)))) (tTup (tCons (tVar 9) tNil)))) (te := tVar 11) rfl scInst.nd (pi_list (pv 5))
              (blkOk_by (N := ["_law_deck_here", "_law_posts", "_law_groups", "_law_far", "_law_many", "_law_rows", "_law_k", "_law_wish", "_law_sizes", "_law_post", "_law_near", "_law_count"]) (sc := defScope sInst) (by decide +kernel))
              (fun _ _ _ _ _ => pg_tup rfl (pgs_cons (pg_name (i := 7) scInst.nd rfl (.inl rfl)) (pgs_cons (pg_name (i := 11) scInst.nd rfl (.inl rfl)) pgs_nil)))
              (fun _ _ _ _ _ => pts_one (pt_cmpR (op_eqD hu64) (pe_slice sl_tupA (pv 7) po_none (po_some pe_int)) (pe_tup (pa_cons (pv 9) pa_nil)) (nomark _)))
              (fun _ _ _ _ _ => pv 11)) pa_nil))
            (pe_call GD (hr.mono (by omega)) (by rfl) gD FD.kp bD .nil pass0 (pa_cons (pv 0) (pa_cons pe_int pa_nil)))) pe_int))
        (pss_one (ps_expr (pe_bm PySem.F.plainAttrs_list PySem.F.slot_list_append PySem.F.type_list_append mt_append (pv 8) (pa_cons (pe_call GO (hr.mono (by omega)) (by rfl) gO FO.kp bO .nil pass0 (pa_cons (pv 0) (pa_cons
            (pe_lst (pa_cons (pe_call GA (hr.mono (by omega)) (by rfl) gA FA.kp bA .nil pass0 (pa_cons (pv 0) (pa_cons (pv 3) pa_nil))) (pa_cons (pe_callB (call_max2 rfl) (by rfl) mmx (by decide +kernel) (pa_cons pe_int (pa_cons
              (pe_callB (call_min2 rfl) (by rfl) mmn (by decide +kernel) (pa_cons (pe_op op_pow pe_int pe_int) (pa_cons (pv 10) pa_nil))) pa_nil))) pa_nil))) pa_nil))) pa_nil))))))
      (pss_one (ps_ret (pe_tup (pa_cons (pe_callTy call_tuple_of (by rfl) mt (by decide +kernel) (pa_cons (pv 8) pa_nil)) (pa_cons (pe_callTy call_tuple_of (by rfl) mt (by decide +kernel) (pa_cons (pv 5) pa_nil)) pa_nil))))))))), ?_⟩
    refine ⟨.ref st, rfl, .int 6, rfl, st, c, r, t, _, rfl, hd, by omega, by decide, by decide, fun H1 d1 h10 h11 D1 X1 => ⟨_, _, rfl, rfl, ?_⟩⟩
    obtain ⟨n, hn⟩ : ∃ n : Nat, 1 + d1 = (n : Int) := ⟨(1 + d1).toNat, by omega⟩
    have hn6 : 1 ≤ n ∧ n ≤ 6 := by omega
    dsimp only
    rw [hn]
    refine ⟨Nat.zero_le _, fun Rw nRw => ?_⟩
    have oRw := D1.off nRw
    have fRw := X1.nil D1 nRw
    have D1' := D1.new nRw (o := .lst [])
    refine ⟨.ref st, rfl, .int gm, rfl, st, c, r, t + 1, _, rfl, D1', by omega, by omega, by omega, fun H2 d2 h20 h21 D2 X2 => ⟨_, _, rfl, rfl, ?_⟩⟩
    refine ⟨1 + d2, rfl, by omega, by omega, for_it (walk_range (lo := 0) (n := (1 + d2).toNat))
      (fun i σ H4 => ∃ (y6 y7 : Option V) (t4 : Nat) (vs : List V) (gs : List Gp), σ = [some (.ref st), some (.int 6), some (.int gm), some (.int far), some (.int n), some (.ref Rw), y6, y7, none, none, none, none] ∧ DS H4 st c r t4 ∧ t4 ≤ t + 2 + 20 * i ∧ Ext st r H H4 ∧
        H4 Rw = some (.lst vs) ∧ DpAll K H4 vs (gs.map dGrp) ∧ gs.length = i ∧ ∀ g ∈ gs, g.1.length ≤ 6 ∧ (∀ p ∈ g.1, 0 ≤ p ∧ p < (n : Int)) ∧ (1 ≤ g.2 ∧ g.2 ≤ 10 ^ 12) ∧ g.1.Nodup)
      ⟨none, none, t + 2, [], [], rfl, D2, by omega, (X1.trans (Ext.of (sameNew nRw))).trans X2, X2 _ _ upd_same oRw.1 oRw.2.2, .nil, rfl, fun g h => by simp at h⟩ (fun _ _ _ _ _ => trivial) ?_ ?_⟩
    · rintro i v σ H4 H4' hlt ⟨y6, y7, t4, vs, gs, rfl, d4, ht4, x4, eR, hvs, lgs, bgs⟩ ⟨rfl, rfl⟩
      have hi10 : i < 10 := by omega
      have hvl : vs.length = i := by rw [DpAll.len hvs, List.length_map, lgs]
      -- wish
      refine ⟨.ref st, rfl, .int n, rfl, n, rfl, RgOk.of_le (by omega) (by omega) (by omega) (by omega), fun Lr nLr => ?_⟩
      refine ⟨st, c, r, Lr, t4, upTo n, rfl, d4.new nLr, by omega, by rw [upd_same, rgV_upTo], by rw [upTo_len]; omega, fun H5 p5 ms hms hmn hml e5 n1 n2 n3 D5 X5 => ?_⟩
      rw [upTo_len] at hml D5
      refine ⟨.ref st, rfl, .int n, rfl, _, _, rfl, rfl, st, c, r, t4 + n, _, rfl, D5, by omega, by omega, by omega, fun H6 d6 h60 h61 D6 X6 => ⟨d6, rfl, p5, _, rfl, SqL.of (X6 _ _ e5 n1 n3), fun W nW => ?_⟩⟩
      have tk45 : TupK H4' H6 := ((TupK.new nLr).trans (X5.tup (d4.new nLr))).trans (X6.tup D5)
      have x6 := ((x4.trans (Ext.of (sameNew nLr))).trans X5).trans X6
      have eR6 := X6 _ _ (X5 _ _ (upNew nLr eR) oRw.1 oRw.2.2) oRw.1 oRw.2.2
      obtain ⟨dn, rfl⟩ : ∃ dn : Nat, d6 = dn := ⟨d6.toNat, by omega⟩
      have hcut : cutV (ms.map V.int) none (some (dn : Int)) = (ms.take dn).map V.int := by rw [List.map_take]; exact cut_to _ dn
      -- the list perhaps of an earlier row
      refine ⟨fun σ' H' => ∃ (z6 : Option V) (Wa : Addr) (ws : List Int) (t7 : Nat), σ' = [some (.ref st), some (.int 6), some (.int gm), some (.int far), some (.int n), some (.ref Rw), z6, some (.ref Wa), none, none, none, none] ∧
        H' Wa = some (.lst (ws.map V.int)) ∧ ws.length ≤ 6 ∧ (∀ p ∈ ws, 0 ≤ p ∧ p < (n : Int)) ∧ ws.Nodup ∧ DS H' st c r t7 ∧ t7 ≤ t4 + 12 ∧ Ext st r H H' ∧ H' Rw = some (.lst vs) ∧ TupK H4' H', ?_, ?_⟩
      · refine ⟨.ref Rw, rfl, Nat.zero_le _, fun p np => ⟨.list (gs.map dGrp), .list [], .lst (SqL.of (upNew np (upNew nW eR6))) ((((tk45.trans (TupK.new nW)).trans (TupK.new np)).dpAll _ _ (to_grps _) hvs)), .lst (SqL.of upd_same) .nil, shaped_grps gs, by decide, _, rfl, ?_⟩⟩
        rw [eqv_empty]
        have eWp : (upd (upd H6 W (.lst (cutV (ms.map V.int) none (some (dn : Int))))) p (.lst [])) W = some (.lst ((ms.take dn).map V.int)) := upNew np (by rw [upd_same, hcut])
        have bW : ∀ x ∈ ms.take dn, 0 ≤ x ∧ x < (n : Int) := fun x hx => upTo_mem (hms x (List.mem_of_mem_take hx))
        have nW' : (ms.take dn).Nodup := (List.take_sublist dn ms).nodup (hmn (upTo_nodup n))
        have lW : (ms.take dn).length ≤ 6 := by rw [List.length_take]; omega
        have Dp' := (D6.new nW (o := .lst (cutV (ms.map V.int) none (some (dn : Int))))).new np (o := .lst [])
        have xp := (x6.trans (Ext.of (sameNew nW (o := .lst (cutV (ms.map V.int) none (some (dn : Int))))))).trans (Ext.of (sameNew np (o := .lst [])))
        have eRp := upNew np (o := .lst []) (upNew nW (o := .lst (cutV (ms.map V.int) none (some (dn : Int)))) eR6)
        have tkp := (tk45.trans (TupK.new nW (o := .lst (cutV (ms.map V.int) none (some (dn : Int)))))).trans (TupK.new np (o := .lst []))
        have oW := D6.off nW
        have hgse : gs = [] ∨ 0 < gs.length := by cases gs <;> simp
        rcases hgse with rfl | hpos
        · exact ⟨_, W, _, t4 + n + 1, rfl, eWp, lW, bW, nW', Dp', by omega, xp, eRp, tkp⟩
        · have he : (!(gs.map dGrp).isEmpty) = true := by cases gs <;> simp at hpos ⊢
          rw [he]
          refine iteT ?_
          refine ⟨.ref st, rfl, st, c, r, t4 + n + 1, _, rfl, Dp', by omega, by decide, by decide, fun H8 d8 h80 h81 D8 X8 => ⟨rfl, _, rfl, ite2 (fun h1 => ?_) (fun h1 => ?_)⟩⟩
          · have eR8 := X8 _ _ eRp oRw.1 oRw.2.2
            refine ⟨.ref st, rfl, .ref Rw, rfl, st, c, r, Rw, t4 + n + 1 + 1, vs, rfl, D8, by omega, eR8, oRw.1, oRw.2.2, by omega, by omega, fun H9 j x hx D9 X9 => ?_⟩
            obtain ⟨dd, hdd, hxd⟩ := DpAll.at hvs hx
            rw [List.getElem?_map] at hdd
            obtain ⟨g, hgi, rfl⟩ := Option.map_eq_some_iff.mp hdd
            have tk9 := (tkp.trans (X8.tup Dp')).trans (X9.tup D8)
            obtain ⟨gAd, pA, rfl, hG, hP⟩ := grp_ref (tk9.dp _ _ (to_dGrp g) hxd)
            have hb := bgs g (List.mem_of_getElem? hgi)
            refine ⟨gAd, _, 0, .ref pA, rfl, rfl, hG, atI_nat (j := 0) rfl, pA, _, rfl, .inr hP, fun W2 nW2 => ?_⟩
            exact ⟨_, W2, g.1, t4 + n + 1 + 1 + 1, rfl, upd_same, hb.1, hb.2.1, hb.2.2.2, D9.new nW2, by omega, ((xp.trans X8).trans X9).trans (Ext.of (sameNew nW2)), upNew nW2 (X9 _ _ eR8 oRw.1 oRw.2.2), tk9.trans (TupK.new nW2)⟩
          · exact ⟨_, W, _, t4 + n + 1 + 1, rfl, X8 _ _ eWp oW.1 oW.2.2, lW, bW, nW', D8, by omega, xp.trans X8, X8 _ _ eRp oRw.1 oRw.2.2, tkp.trans (X8.tup Dp')⟩
      · rintro σ' H7 ⟨z6, Wa, ws, t7, rfl, eW7, lW7, bW7, nW7, d7, ht7, x7, eR7, tk7⟩
        refine ⟨.ref Rw, rfl, .inl ⟨rfl, _, SqL.of eR7⟩, .ref Wa, rfl, Wa, _, rfl, .inl ⟨SqL.of eW7, fun Tp nTp => ?_⟩⟩
        refine ⟨.ref st, rfl, .int far, rfl, st, c, r, t7, far, rfl, d7.new nTp, by omega, fun H8 cnt t8 hc1 hc2 D8 ht8 X8 => ⟨(show (2 : Nat) ≤ sizeLine by decide), fun Gr nGr => ?_⟩⟩
        have eF8p := X8 _ _ (upNew nTp eR7) oRw.1 oRw.2.2
        have eF8 := upNew nGr (o := .tup [.ref Tp, .int cnt]) eF8p
        have tk8 := (TupK.new nTp).trans (X8.tup (d7.new nTp (o := .tup (ws.map V.int))))
        have sT : SqT K H8 Tp (ws.map V.int) := (X8.tup (d7.new nTp)).sq (SqT.of upd_same)
        have tkz : TupK H8 (upd (upd H8 Gr (.tup [.ref Tp, .int cnt])) Rw (.lst (vs ++ [.ref Gr]))) := (TupK.new nGr).trans (TupK.put eF8)
        refine ⟨Rw, vs, _, rfl, rfl, eF8, by rw [hvl]; exact small (by omega), _, _, t8, vs ++ [.ref Gr], gs ++ [(ws, cnt)], rfl, (D8.new nGr).put oRw.1 oRw.2.1 oRw.2.2, by omega, ExtPut (((x7.trans (Ext.of (sameNew nTp))).trans X8).trans (Ext.of (sameNew nGr))) fRw, upd_same, ?_, by simp [lgs], ?_⟩
        · rw [List.map_append]
          refine DpAll.snoc (((tk7.trans tk8).trans tkz).dpAll _ _ (to_grps _) hvs) (.tup (SqT.of ?_) (.cons (dI_sq (tkz.sq sT)) (.cons (.int _) .nil)))
          rw [upd_ne (ne_of_none eF8p nGr).symm]
          exact upd_same
        · intro g hg
          rw [List.mem_append] at hg
          rcases hg with h | h
          · exact bgs g h
          · simp only [List.mem_singleton] at h
            subst h
            exact ⟨lW7, bW7, ⟨hc1, hc2⟩, nW7⟩
    · rintro σ Hr ⟨y6, y7, t4, vs, gs, rfl, d4, ht4, x4, eR, hvs, lgs, bgs⟩
      have hvl : vs.length = gs.length := by rw [DpAll.len hvs, List.length_map]
      -- sizes = []
      refine ⟨Nat.zero_le _, fun Sz nSz => ?_⟩
      have oSz := d4.off nSz
      have fSz := x4.nil d4 nSz
      have nRS : Rw ≠ Sz := ne_of_none eR nSz
      refine ⟨.int n, rfl, n, rfl, by omega, by omega, for_it (walk_range (lo := 0) (n := (n : Int).toNat))
        (fun j σ H5 => ∃ (z6 z7 z9 z10 : Option V) (t5 : Nat) (ls : List Int), σ = [some (.ref st), some (.int 6), some (.int gm), some (.int far), some (.int n), some (.ref Rw), z6, z7, some (.ref Sz), z9, z10, none] ∧ DS H5 st c r t5 ∧ t5 ≤ t4 + 10 * j ∧ Ext st r H H5 ∧ TupK Hr H5 ∧
          H5 Rw = some (.lst vs) ∧ H5 Sz = some (.lst (ls.map V.int)) ∧ ls.length = j ∧ ∀ x ∈ ls, 1 ≤ x ∧ x ≤ 10 ^ 12)
        ⟨_, _, none, none, t4, [], rfl, d4.new nSz, by omega, x4.trans (Ext.of (sameNew nSz)), TupK.new nSz, upNew nSz eR, upd_same, rfl, fun x h => by simp at h⟩ (fun _ _ _ _ _ => trivial) ?_ ?_⟩
      · rintro j v σ H5 H5' hltj ⟨z6, z7, z9, z10, t5, ls, rfl, d5, ht5, x5, tk5, eR5, eS5, lS5, bS5⟩ ⟨rfl, rfl⟩
        have hj6 : j < 6 := by omega
        -- near
        refine ⟨.ref Rw, rfl, Rw, rfl, ⟨_, SqL.of eR5⟩, fun D nD => lc_it (walk_list (K := K) (a := Rw) (xs := vs))
          (fun m H6 => Same H5' H6 ∧ ∃ ks : List Int, H6 D = some (.lst (ks.map V.int)) ∧ ks.length ≤ m) ⟨sameNew nD, [], upd_same, Nat.le_refl _⟩ (fun m H6 _ h6 => SqL.of (h6.1 _ _ eR5)) ?_ ?_⟩
        · rintro m x H6 H6' hltm ⟨s6, ks, e6, l6⟩ ⟨rfl, hx⟩
          obtain ⟨dd, hdd, hxd⟩ := DpAll.at hvs hx
          rw [List.getElem?_map] at hdd
          obtain ⟨g, hgi, rfl⟩ := Option.map_eq_some_iff.mp hdd
          obtain ⟨gAd, pA, rfl, hG, hP⟩ := grp_ref ((tk5.trans (TupK.of s6)).dp _ _ (to_dGrp g) hxd)
          refine ⟨gAd, _, rfl, hG, rfl, _, _, rfl, _, _, rfl, rfl, rfl, .ref pA, rfl, 1, rfl, first_eq hP (fun H7 b s7 hb => ⟨_, rfl, (show (1 : Nat) ≤ sizeLine by decide), fun p2 n2 => ⟨dI (g.1.take 1), dI [(0 : Int) + (j : Nat)], dI_sq ((TupK.new n2).sq hb), dI_sq (SqT.of upd_same), shaped_dI _, shaped_dI _, _, rfl, ite2 (fun h1 => ?_) (fun h1 => ?_)⟩⟩)⟩
          · have e8 := upNew n2 (o := .tup [.int ((0 : Int) + (j : Nat))]) (s7 _ _ e6)
            refine ⟨_, rfl, _, e8, ?_, samePut ((s6.trans s7).trans (sameNew n2)) nD, ks ++ [g.2], ?_, by simp; omega⟩
            · rw [List.length_map]; exact small (by omega)
            · rw [upd_same, List.map_append]; rfl
          · exact ⟨(s6.trans s7).trans (sameNew n2), ks, upNew n2 (s7 _ _ e6), by omega⟩
        rintro H6 ⟨s6, ks, e6, l6⟩
        have d6 := d5.same s6
        refine ⟨D, ks, rfl, SqL.of e6, .ref st, rfl, st, c, r, t5, _, rfl, d6, by omega, by decide, by decide, fun H7 d7 h70 h71 D7 X7 => ⟨_, _, rfl, rfl, _, _, rfl, rfl, ?_⟩⟩
        have x7 := (x5.trans (Ext.of s6)).trans X7
        have eS7 := X7 _ _ (s6 _ _ eS5) oSz.1 oSz.2.2
        have eR7 := X7 _ _ (s6 _ _ eR5) oRw.1 oRw.2.2
        have tk7 := (tk5.trans (TupK.of s6)).trans (X7.tup d6)
        -- sizes.append(..)
        refine ⟨.ref Sz, rfl, .inl ⟨rfl, _, SqL.of eS7⟩, .ref st, rfl, .ref st, rfl, .int far, rfl, st, c, r, t5 + 1, far, rfl, D7, by omega, fun H8 am t8 ha1 ha2 D8 ht8 X8 => ?_⟩
        refine ⟨_, _, rfl, rfl, ⟨by decide, by decide, by decide⟩, _, rfl, _, _, rfl, _, _, rfl, (show (2 : Nat) ≤ sizeLine by decide), fun L nL => ?_⟩
        have oL := D8.off nL
        refine ⟨st, c, r, L, t8, _, rfl, D8.new nL, by omega, upd_same, oL.1, oL.2.2, (show (0 : Nat) < 2 by decide), (show (2 : Nat) ≤ 1000 by decide), fun H9 jj x hx D9 X9 => ?_⟩
        obtain ⟨xv, rfl, hx1, hx2⟩ : ∃ xv : Int, x = .int xv ∧ 1 ≤ xv ∧ xv ≤ 10 ^ 12 := by
          match jj, hx with
          | 0, hx => cases hx; exact ⟨am, rfl, ha1, ha2⟩
          | 1, hx =>
            cases hx
            have t12 : (10 : Int) ^ (12 : Int).toNat = 1000000000000 := by decide
            refine ⟨_, rfl, ?_, ?_⟩
            · split <;> omega
            · split
              · split <;> rw [t12] at * <;> omega
              · omega
          | n + 2, hx => simp at hx
        have eS9 := X9 _ _ (upNew nL (X8 _ _ eS7 oSz.1 oSz.2.2)) oSz.1 oSz.2.2
        have eR9 := X9 _ _ (upNew nL (X8 _ _ eR7 oRw.1 oRw.2.2)) oRw.1 oRw.2.2
        refine ⟨Sz, _, _, rfl, rfl, eS9, by rw [List.length_map]; exact small (by omega), _, _, _, _, t8 + 1, ls ++ [xv], rfl, D9.put oSz.1 oSz.2.1 oSz.2.2, by omega, ExtPut (((x7.trans X8).trans (Ext.of (sameNew nL))).trans X9) fSz, (((tk7.trans (X8.tup D7)).trans (TupK.new nL)).trans (X9.tup (D8.new nL))).trans (TupK.put eS9), by rw [upd_ne nRS]; exact eR9, ?_, by simp [lS5], ?_⟩
        · rw [upd_same, List.map_append]; rfl
        · intro y hy
          rw [List.mem_append] at hy
          rcases hy with h | h
          · exact bS5 y h
          · simp only [List.mem_singleton] at h; omega
      · rintro σ H5 ⟨z6, z7, z9, z10, t5, ls, rfl, d5, ht5, x5, tk5, eR5, eS5, lS5, bS5⟩
        refine ⟨.ref Sz, rfl, Sz, _, rfl, .inl ⟨SqL.of eS5, fun Ct nCt => ⟨.ref Rw, rfl, Rw, _, rfl, .inl ⟨SqL.of (upNew nCt eR5), fun Gt nGt => ⟨(show (2 : Nat) ≤ sizeLine by decide), fun In nIn => ?_⟩⟩⟩⟩⟩
        have tkz : TupK H5 (upd (upd (upd H5 Ct (.tup (ls.map V.int))) Gt (.tup vs)) In (.tup [.ref Ct, .ref Gt])) := ((TupK.new nCt).trans (TupK.new nGt)).trans (TupK.new nIn)
        have hl5 : ls.length = n := by omega
        refine q _ In t5 ls gs (((d5.new nCt).new nGt).new nIn) (by omega) (((x5.trans (Ext.of (sameNew nCt))).trans (Ext.of (sameNew nGt))).trans (Ext.of (sameNew nIn)))
          (.tup (SqT.of upd_same) (.cons (dI_sq (((TupK.new nGt).trans (TupK.new nIn)).sq (SqT.of upd_same))) (.cons (.tup (SqT.of (upNew nIn upd_same)) ((tk5.trans tkz).dpAll _ _ (to_grps _) hvs)) .nil))) ⟨by omega, by omega, bS5, by omega, by omega, ?_⟩ (fun g hg => (bgs g hg).2.2.2)
        rw [hl5]
        exact fun g hg => ⟨(bgs g hg).1, (bgs g hg).2.1, (bgs g hg).2.2.1.1, (bgs g hg).2.2.1.2⟩
end
end Pv

/-! sorted(t), set(t), len(set(t)) of a tuple of ints -/
namespace PyProof.Rows
open PySem
section
variable {prog : Program} {w : World} {A : Around} {E : Value → Shared → Prop} {s : Shared}
theorem pv_collectTup {l : Addr} {vs : List Value} {Q : List Value → Shared → Prop} (hl : s.heap.IsTuple l vs.toArray) (hsz : vs.length ≤ sizeLine)
    (h : Q vs { s with heap := (s.heap.push (seqObj "list" #[] 0)).update s.heap.objs.size (Obj.mapSeq (· ++ vs.toArray)) }) : wpAny (model prog w) A (collect (.ref l)) Q E s := by
  obtain ⟨o, ho, hc, n, hd⟩ := id hl
  have ho1 : (s.heap.push (seqObj "list" #[] 0)).get? l = some o := Heap.get?_push_of_some _ ho
  have htt : (Value.type "tuple" == Value.type "tuple") = true := by rfl
  unfold collect; refine wpAny_bind (wpAny_runValue (codeAny_builtin entry_proto_collect' ?_))
  show wpAny _ _ (do again (.builtin "list.__iadd__" ⟨[← newList [], .ref l], []⟩)) _ _ _
  refine wpAny_bind (wpAny_newList (wpAny_pure ⟨Code.quiet_builtin _ (by decide +kernel), codeAny_builtin entry_list_iadd' ?body⟩))
  case body =>
    show wpAny _ _ (Builtin.List.listExtendWith (.ref s.heap.objs.size) (.ref l) (.ref s.heap.objs.size)) _ _ { s with heap := s.heap.push (seqObj "list" #[] 0), toks := s.toks }
    unfold Builtin.List.listExtendWith; refine wpAny_bind (wpAny_typeOf (T := "tuple") ⟨o, ho1, hc⟩ ?_)
    rw [if_pos (by rw [htt]; simp)]; refine wpAny_bind (listItems_at ho1 hd (wpAny_bind (listItems_at (xs := #[]) (n := 0) (Heap.get?_push_size _ rfl) rfl ?_)))
    rw [if_neg (by simp)]; refine wpAny_bind (listUpdate_at (xs := #[]) (n := 0) (Heap.get?_push_size _ rfl) rfl (wpAny_pure ?_) (Nat.zero_le _) (by show (#[] ++ vs.toArray).size ≤ sizeLine + 1; simp only [Array.size_append, List.size_toArray, List.length_nil]; omega))
    show wpAny (model prog w) A (do match (← load s.heap.objs.size).data with | .seq xs _ => pure xs.toList | _ => unsupported "internal:collect") Q E { s with heap := (s.heap.push (seqObj "list" #[] 0)).update s.heap.objs.size (Obj.mapSeq (· ++ vs.toArray)), toks := s.toks }
    refine wpAny_bind (wpAny_load (get?_update_seq (Heap.get?_push_size _ rfl) _) ?_)
    show wpAny _ _ (pure ((#[] : Array Value) ++ vs.toArray).toList) Q E { s with heap := _ }
    rw [show ((#[] : Array Value) ++ vs.toArray).toList = vs by simp]; exact wpAny_pure h
theorem pv_sortedTup {l : Addr} {vs : List Value} {ns : List Int} {Q : Value → Shared → Prop} (hl : s.heap.IsTuple l vs.toArray) (hI : IntsAre vs ns) (h64 : vs.length < 64)
    (h : ∀ (out : Array Value) (ns' : List Int), IntsAre out.toList ns' → ns'.Perm ns → ns'.Pairwise (· ≤ ·) → Q (.ref (s.heap.objs.size + 1)) { s with heap := sortedAll s.heap vs out }) :
    wpAny (model prog w) A (call (.builtin "sorted") [.ref l]) Q E s := by
  refine Calls.call_function_entry kind_sorted plain_sorted entry_sorted (args_sorted1 _) ?tree
  case tree =>
    unfold Builtin.«sorted»; refine wpAny_bind (m := checkCount "sorted" 1 1 _) (wpAny_pure (wpAny_bind (pv_collectTup hl (by rw [sizeLine_eq]; omega) (wpAny_bind (wpAny_newList ?new (by rw [sizeLine_eq]; omega))))))
    case new =>
      have e1 : ((s.heap.push (seqObj "list" #[] 0)).update s.heap.objs.size (Obj.mapSeq (· ++ vs.toArray))).objs.size = s.heap.objs.size + 1 := by rw [Heap.size_update, size_push']
      have e2 : (((s.heap.push (seqObj "list" #[] 0)).update s.heap.objs.size (Obj.mapSeq (· ++ vs.toArray))).push (seqObj "list" vs.toArray 0)).get? (s.heap.objs.size + 1) = some (seqObj "list" vs.toArray 0) := by rw [← e1]; exact Heap.get?_push_size _ rfl
      show wpAny _ _ _ _ _ { s with heap := ((s.heap.push (seqObj "list" #[] 0)).update s.heap.objs.size (Obj.mapSeq (· ++ vs.toArray))).push (seqObj "list" vs.toArray 0), toks := s.toks }
      rw [e1]; exact wpAny_bind (wpAny_holding (wpAny_call_entry slot_list_sort ⟨_, e2, rfl⟩ entry_list_sort (list_sort_tree e2 hI h64 fun out ns' a1 a2 a3 => ⟨_, rfl, wpAny_pure ⟨_, rfl, h out ns' a1 a2 a3⟩⟩) (args_list_sort _)))
end
end PyProof.Rows
namespace Pv
open PySem PySem.Spec PyProof.Rows L2
section
variable {X : Cx}
def rSortedT (K : PySem.W.Frag) : RC := fun vs H Q => ∃ (a : Addr) (ns : List Int), vs = [V.ref a] ∧ SqT K H a (ns.map V.int) ∧ ns.length < 64 ∧
  ∀ (ns' : List Int) (p : Addr), ns'.Perm ns → ns'.Pairwise (· ≤ ·) → H p = none → Q (.ref p) (upd H p (.lst (ns'.map V.int)))
theorem cr_sortedT : CallR X (.builtin "sorted") (rSortedT X.K) := by
  intro pins s σ H vs us Q I rel h
  obtain ⟨a, ns, e, hs, h64, q⟩ := h
  subst e
  obtain ⟨its, rv, ht, hz⟩ := I.tuple hs
  rw [Vals.ref1 rel]
  have hi := rv.ints
  refine pv_sortedTup (show s.heap.IsTuple a its.toArray from ht) hi (by rw [hi.length]; exact h64) ?_
  intro out ns' h1 h2 h3
  obtain ⟨ep, he⟩ := PyProof.Rows.sortedAll_at s.heap its out
  have hlen : (ns'.map V.int).length ≤ sizeLine := by rw [List.length_map, h2.length_eq, sizeLine_eq]; omega
  exact ⟨.ref _, _, I.laid (a := s.heap.objs.size + 1) (o := .lst (ns'.map V.int)) (t' := s.toks) (fun _ _ => PyProof.Rows.sortedAll_old) (Nat.le_succ _) ⟨hlen, out.toList, ep, vals_of_ints h1, he⟩, rfl, q ns' _ h2 h3 (I.hok.fresh (Nat.le_succ _))⟩
def rSetT (w : World) (K : PySem.W.Frag) : RC := fun vs H Q => ∃ (a : Addr) (ns : List Int), vs = [V.ref a] ∧ SqT K H a (ns.map V.int) ∧ ns.length < 60 ∧
  ∀ (p : Addr) (c : Nat), H p = none → (∃ ks : List Int, ks.Nodup ∧ (∀ k, k ∈ ks ↔ k ∈ ns) ∧ ks.length = c) → c ≤ ns.length → Q (.ref p) (upd H p (SetO w p (fun j => decide (j ∈ ns)) c))
theorem cr_setT (hc : X.calm = true) : CallR X (.type "set") (rSetT X.w X.K) := by
  intro pins s σ H vs us Q I rel h
  obtain ⟨a, ns, e, hs, h60, q⟩ := h
  subst e
  obtain ⟨its, rv, ht, hz⟩ := I.tuple hs
  rw [Vals.ref1 rel]
  have hi := rv.ints
  have hsb : scanBound > 61 := by decide
  refine call_set_tupI ns (I.ok.hd hc) (show s.heap.IsTuple a its.toArray from ht) (by simpa using hi) (by omega) ?_
  intro h' tk c R hcn kp
  refine ⟨.ref s.heap.objs.size, _, I.laid (a := s.heap.objs.size) (o := SetO X.w s.heap.objs.size (fun j => decide (j ∈ ns)) c) (t' := tk) kp (Nat.le_refl _) (setO_new R), rfl, q _ c (I.hok.fresh (Nat.le_refl _)) ?_ hcn⟩
  obtain ⟨o, es, ep, t, _, _, _, _, nd, hm, _, _, hn, _⟩ := R
  exact ⟨es.toList.map keyOf, nd, fun k => by rw [← hm k]; simp, by rw [List.length_map, Array.length_toList]; exact hn⟩
def rLenS' (w : World) : RC := fun vs H Q => ∃ (a : Addr) (S : Int → Bool) (n : Nat), vs = [V.ref a] ∧ H a = some (SetO w a S n) ∧ Q (.int n) H
theorem cr_lenSet : CallR X (.builtin "len") (rLenS' X.w) := by
  intro pins s σ H vs us Q I rel h
  obtain ⟨a, S, n, e, ha, q⟩ := h
  subst e
  rw [Vals.ref1 rel]
  obtain ⟨o, es, ep, t, ho, hx, hd, _, _, _, hb, hf, hn, _⟩ := setO_get I ha
  subst hn
  have hsb : scanBound < 2 ^ 62 := by decide
  exact call_len_set ho hx hd hf (by omega) ⟨.int _, H, I.tok _, ⟨_, rfl⟩, q⟩
end
/-! what the size of the set tells -/
theorem len_sub : ∀ {ks ns : List Int}, ks.Nodup → (∀ k ∈ ks, k ∈ ns) → ks.length ≤ ns.length
  | [], _, _, _ => Nat.zero_le _
  | k :: ks, ns, nd, h => by
    obtain ⟨n1, n2⟩ := List.nodup_cons.mp nd
    have hk := h k (by simp)
    have h1 := len_sub (ks := ks) (ns := ns.erase k) n2 (fun x hx => by
      have hne : x ≠ k := fun z => n1 (by rw [← z]; exact hx)
      exact (List.mem_erase_of_ne hne).mpr (h x (by simp [hx])))
    rw [List.length_erase_of_mem hk] at h1
    have := List.length_pos_of_mem hk
    rw [List.length_cons]; omega
theorem len_nodup : ∀ {ns ks : List Int}, ks.Nodup → (∀ k, k ∈ ks ↔ k ∈ ns) → (ks.length = ns.length ↔ ns.Nodup) := by
  intro ns ks nd hm
  constructor
  · intro hl
    induction ns generalizing ks with
    | nil => exact List.nodup_nil
    | cons n ns ih =>
      have hn : n ∈ ks := (hm n).mpr (by simp)
      have hnot : n ∉ ns := by
        intro hin
        have := len_sub nd (ns := ns) (fun k hk => by
          rcases List.mem_cons.mp ((hm k).mp hk) with rfl | h
          · exact hin
          · exact h)
        rw [List.length_cons] at hl; omega
      refine List.nodup_cons.mpr ⟨hnot, ih (ks := ks.erase n) (nd.erase n) (fun k => ?_) ?_⟩
      · rw [nd.mem_erase_iff, hm k, List.mem_cons]
        constructor
        · rintro ⟨h1, h2 | h2⟩
          · exact absurd h2 h1
          · exact h2
        · intro h
          exact ⟨fun z => hnot (z ▸ h), .inr h⟩
      · rw [List.length_erase_of_mem hn, hl, List.length_cons]; rfl
  · intro hn
    exact Nat.le_antisymm (len_sub nd fun k hk => (hm k).mp hk) (len_sub hn fun k hk => (hm k).mpr hk)
theorem lt_unique : ∀ {as bs : List Int}, as.Pairwise (· < ·) → bs.Pairwise (· < ·) → (∀ k, k ∈ as ↔ k ∈ bs) → as = bs
  | [], [], _, _, _ => rfl
  | [], b :: bs, _, _, h => by have := (h b).mpr (by simp); cases this
  | a :: as, [], _, _, h => by have := (h a).mp (by simp); cases this
  | a :: as, b :: bs, ha, hb, h => by
    obtain ⟨a1, a2⟩ := List.pairwise_cons.mp ha
    obtain ⟨b1, b2⟩ := List.pairwise_cons.mp hb
    have e : a = b := by
      rcases List.mem_cons.mp ((h a).mp (by simp)) with h1 | h1
      · exact h1
      · rcases List.mem_cons.mp ((h b).mpr (by simp)) with h2 | h2
        · exact h2.symm
        · have := b1 a h1; have := a1 b h2; omega
    subst e
    rw [lt_unique a2 b2 (fun k => ?_)]
    constructor
    · intro hk
      rcases List.mem_cons.mp ((h k).mp (List.mem_cons_of_mem _ hk)) with h1 | h1
      · have := a1 k hk; omega
      · exact h1
    · intro hk
      rcases List.mem_cons.mp ((h k).mpr (List.mem_cons_of_mem _ hk)) with h1 | h1
      · have := b1 k hk; omega
      · exact h1
theorem sort_nodup {ns ns' ms : List Int} (hp : ns'.Perm ns) (hs : ns'.Pairwise (· ≤ ·)) (hm : ms.Pairwise (· < ·)) (h : ∀ k, k ∈ ms ↔ k ∈ ns) : ns' = ms ↔ ns.Nodup := by
  constructor
  · intro e
    subst e
    exact hp.nodup_iff.mp (hm.imp fun {a b} h => by omega)
  · intro hn
    have hn' : ns'.Nodup := hp.nodup_iff.mpr hn
    refine lt_unique ?_ hm (fun k => by rw [hp.mem_iff, h k])
    exact (hs.and hn').imp fun {a b} h => by have := h.1; have := h.2; omega
end Pv

namespace Pv
open PySem PySem.Spec PyProof.Rows L2



/-! a tuple of different post numbers, by its data -/
def listD (n : Int) (d : PyData) : Bool := match intsOf d with
  | some row => row.all (fun x => decide (0 ≤ x ∧ x ≤ n - 1)) && decide row.Nodup
  | none => false
theorem listD_ints (n : Int) (row : List Int) : listD n (.tuple (row.map .int)) = (row.all (fun x => decide (0 ≤ x ∧ x ≤ n - 1)) && decide row.Nodup) := by
  simp [listD, intsOf, intsAll_ints]
theorem listD_out {n : Int} {ds : List PyData} (h : ds.all (withinD 0 (n - 1)) = false) : listD n (.tuple ds) = false := by
  cases e : intsAll ds with
  | none => simp [listD, intsOf, e]
  | some row =>
    have e' := intsAll_eq e
    rw [e', List.all_map] at h
    have : row.all (fun x => decide (0 ≤ x ∧ x ≤ n - 1)) = false := h
    simp only [listD, intsOf, e, this, Bool.false_and]
theorem listD_long {n : Int} {d : PyData} (hn : 0 ≤ n) (h : tupOfD 0 n d = false) : listD n d = false := by
  cases d with
  | tuple ds =>
    cases e : listD n (.tuple ds) with
    | false => rfl
    | true =>
      cases e1 : intsAll ds with
      | none => simp [listD, intsOf, e1] at e
      | some row =>
        have e2 := intsAll_eq e1
        subst e2
        rw [listD_ints, Bool.and_eq_true, List.all_eq_true] at e
        have hl := len_sub (ks := row) (ns := upTo n.toNat) (of_decide_eq_true e.2) (fun k hk => by
          have := of_decide_eq_true (e.1 k hk)
          exact List.mem_map.mpr ⟨k.toNat, by rw [List.mem_range]; omega, by omega⟩)
        rw [upTo_len] at hl
        have h1 := of_decide_eq_false h
        rw [List.length_map] at h1
        omega
  | _ => rfl
section
variable {P : Program} {w : World} {K : PySem.W.Frag} {mg : Str → Option Value} {base : Heap}
def rNeNil (K : PySem.W.Frag) : R2 := fun x y H Q => ∃ (a b : Addr) (xs : List V), x = .ref a ∧ y = .ref b ∧ SqL K H a xs ∧ SqL K H b [] ∧ Q (.bl (!xs.isEmpty)) H
theorem op_neNil {X : Cx} (hu : X.A.units < cLine) : OpR X (compareOp .NotEq) (rNeNil X.K) := by
  intro pins s σ H x y v u Q I rx ry h
  obtain ⟨a, b, xs, rfl, rfl, ha, hb, q⟩ := h
  cases rx
  cases ry
  obtain ⟨its, r1, p1, z1⟩ := I.list ha
  obtain ⟨its2, r2, p2, z2⟩ := I.list hb
  cases r2
  cases xs with
  | nil =>
    cases r1
    exact SeqAt.RcNeAt.lists (e := fun _ => true) p1.isList p2.isList rfl hu (fun j h1 _ => absurd h1 (Nat.not_lt_zero _)) X.prog X.w _ _ ⟨.bl false, H, I, rfl, q⟩
  | cons x xs =>
    have hl := r1.length
    exact SeqAt.RcNeAt.lists_lengths p1.isList p2.isList (by rw [List.size_toArray, ← hl]; rfl) hu X.prog X.w _ _ ⟨.bl true, H, I, rfl, q⟩
def spInteg (K : PySem.W.Frag) : Sp := fun vs H Q _ => ∃ (st r : Addr) (v : V) (d : PyData) (a b : Int), vs = [v, .int a, .int b] ∧ Dq K st r H v d ∧ Q (.bl (withinD a b d)) H
def spPList (K : PySem.W.Frag) : Sp := fun vs H Q _ => ∃ (st r : Addr) (v : V) (d : PyData) (n : Int), vs = [v, .int n] ∧ Dq K st r H v d ∧ 0 ≤ n ∧ n ≤ 50 ∧ ∀ H', Same H H' → Q (.bl (listD n d)) H'
end
end Pv

namespace Pv
open PySem PySem.Spec PyProof.Rows L2




/-! the first error, by the data -/
abbrev bigI : Int := 1000000000000
def err (path : List Int) (s : Str) : PyData := .tuple [dI path, .str s]
def firstErr (ge : Nat → PyData → Option PyData) : Nat → List PyData → Option PyData
  | _, [] => none
  | i, d :: ds => match ge i d with
    | some e => some e
    | none => firstErr ge (i + 1) ds
theorem firstErr_none {ge : Nat → PyData → Option PyData} : ∀ {ds : List PyData} {i : Nat}, (∀ j d, ds[j]? = some d → ge (i + j) d = none) → firstErr ge i ds = none
  | [], _, _ => rfl
  | d :: ds, i, h => by
    have h0 := h 0 d rfl
    unfold firstErr
    rw [show i + 0 = i from rfl] at h0
    rw [h0]
    exact firstErr_none (ds := ds) (i := i + 1) (fun j d' hj => by have := h (j + 1) d' (by simpa using hj); rw [show i + 1 + j = i + (j + 1) by omega]; exact this)
theorem firstErr_at {ge : Nat → PyData → Option PyData} : ∀ {ds : List PyData} {i j : Nat} {d e : PyData}, (∀ m, m < j → ∀ d', ds[m]? = some d' → ge (i + m) d' = none) → ds[j]? = some d → ge (i + j) d = some e → firstErr ge i ds = some e
  | [], _, _, _, _, _, h, _ => by simp at h
  | x :: ds, i, 0, d, e, _, h, he => by
    simp at h
    subst h
    unfold firstErr
    rw [show i + 0 = i from rfl] at he
    rw [he]
  | x :: ds, i, j + 1, d, e, hp, h, he => by
    have h0 := hp 0 (by omega) x rfl
    rw [show i + 0 = i from rfl] at h0
    unfold firstErr
    rw [h0]
    exact firstErr_at (ds := ds) (i := i + 1) (j := j) (d := d) (fun m hm d' hd' => by have := hp (m + 1) (by omega) d' (by simpa using hd'); rw [show i + 1 + m = i + (m + 1) by omega]; exact this) (by simpa using h) (by rw [show i + 1 + j = i + (j + 1) by omega]; exact he)
def capE (i : Nat) (d : PyData) : Option PyData := if withinD 1 bigI d = true then none else some (err [0, (i : Int)] "capacity")
def grpE (n : Int) (i : Nat) (d : PyData) : Option PyData := match d with
  | .tuple [a, b] => if listD n a = true then (if withinD 1 bigI b = true then none else some (err [1, (i : Int), 1] "count")) else some (err [1, (i : Int), 0] "list")
  | _ => some (err [1, (i : Int)] "group")
def tupItems : PyData → List PyData
  | .tuple ds => ds
  | _ => []
def postsE (d : PyData) : Option PyData := if tupOfD 1 6 d = true then firstErr capE 0 (tupItems d) else some (err [0] "posts")
def groupsE (n : Int) (d : PyData) : Option PyData := if tupOfD 1 10 d = true then firstErr (grpE n) 0 (tupItems d) else some (err [1] "groups")
def instE (d : PyData) : Option PyData := match d with
  | .tuple [a, b] => match postsE a with
    | some e => some e
    | none => groupsE ((tupItems a).length : Nat) b
  | _ => some (err [] "instance")
def optD (o : Option PyData) : PyData := o.getD .none
theorem grpE_not {n : Int} {i : Nat} {d : PyData} (h : tupOfD 2 2 d = false) : grpE n i d = some (err [1, (i : Int)] "group") := by
  unfold grpE
  split
  · simp [tupOfD] at h
  · rfl
theorem two_of {ds : List PyData} (h : tupOfD 2 2 (.tuple ds) = true) : ∃ a b, ds = [a, b] := by
  have h1 := of_decide_eq_true h
  match ds, h1 with
  | [a, b], _ => exact ⟨a, b, rfl⟩
  | [], h => simp at h
  | [_], h => simp at h
  | _ :: _ :: _ :: _, h => simp at h; omega
section
variable {P : Program} {w : World} {K : PySem.W.Frag} {mg : Str → Option Value} {base : Heap}
theorem err_fin {H : Hp} {p1 p2 : Addr} (path : List Int) (s : Str) (n1 : H p1 = none) (n2 : upd H p1 (.tup (path.map V.int)) p2 = none) :
    Same H (upd (upd H p1 (.tup (path.map V.int))) p2 (.tup [.ref p1, .str s])) ∧ Dp K (upd (upd H p1 (.tup (path.map V.int))) p2 (.tup [.ref p1, .str s])) (.ref p2) (err path s) :=
  ⟨(sameNew n1).trans (sameNew n2), .tup (SqT.of upd_same) (.cons (dI_sq (SqT.of (upNew n2 upd_same))) (.cons (.str s) .nil))⟩
def spErr (K : PySem.W.Frag) (D : PyData → Option PyData) : Sp := fun vs H Q _ => ∃ (st r : Addr) (v : V) (d : PyData), vs = [v] ∧ Dq K st r H v d ∧ ∀ (H' : Hp) (x : V), Same H H' → Dp K H' x (optD (D d)) → Q x H'
end
end Pv

namespace Pv
open PySem PySem.Spec PyProof.Rows L2
section
variable {P : Program} {w : World} {K : PySem.W.Frag} {mg : Str → Option Value} {base : Heap}
def spGErr (K : PySem.W.Frag) : Sp := fun vs H Q _ => ∃ (st r : Addr) (v : V) (d : PyData) (n : Nat), vs = [v, .int n] ∧ Dq K st r H v d ∧ n ≤ 50 ∧ ∀ (H' : Hp) (x : V), Same H H' → Dp K H' x (optD (groupsE n d)) → Q x H'
theorem firstErr_err {ge : Nat → PyData → Option PyData} (h : ∀ i d e, ge i d = some e → ∃ p s, e = err p s) : ∀ (ds : List PyData) (i : Nat) (e : PyData), firstErr ge i ds = some e → ∃ p s, e = err p s
  | [], _, _, he => by cases he
  | d :: ds, i, e, he => by
    unfold firstErr at he
    cases h1 : ge i d with
    | some e' => rw [h1] at he; cases he; exact h i d _ h1
    | none => rw [h1] at he; exact firstErr_err h ds (i + 1) e he
theorem capE_err : ∀ (i : Nat) (d e : PyData), capE i d = some e → ∃ p s, e = err p s := by
  intro i d e h
  unfold capE at h
  split at h
  · cases h
  · cases h; exact ⟨_, _, rfl⟩
theorem grpE_err (n : Int) : ∀ (i : Nat) (d e : PyData), grpE n i d = some e → ∃ p s, e = err p s := by
  intro i d e h
  unfold grpE at h
  split at h
  · split at h
    · split at h
      · cases h
      · cases h; exact ⟨_, _, rfl⟩
    · cases h; exact ⟨_, _, rfl⟩
  · cases h; exact ⟨_, _, rfl⟩
theorem postsE_err {a e : PyData} (h : postsE a = some e) : ∃ p s, e = err p s := by
  unfold postsE at h
  split at h
  · exact firstErr_err capE_err _ _ _ h
  · cases h; exact ⟨_, _, rfl⟩
theorem groupsE_err {n : Int} {a e : PyData} (h : groupsE n a = some e) : ∃ p s, e = err p s := by
  unfold groupsE at h
  split at h
  · exact firstErr_err (grpE_err n) _ _ _ h
  · cases h; exact ⟨_, _, rfl⟩
theorem instE_pair (a b : PyData) : instE (.tuple [a, b]) = match postsE a with
    | some e => some e
    | none => groupsE ((tupItems a).length : Nat) b := rfl
theorem instE_err {a e : PyData} (h : instE a = some e) : ∃ p s, e = err p s := by
  unfold instE at h
  split at h
  · split at h
    · rename_i hp; cases h; exact postsE_err hp
    · exact groupsE_err h
  · cases h; exact ⟨_, _, rfl⟩
theorem err_ref {H : Hp} {x : V} {p : List Int} {sx : Str} (h : Dp K H x (err p sx)) : ∃ a, x = .ref a := by
  unfold err at h
  cases h
  exact ⟨_, rfl⟩
theorem postsE_ok {a : PyData} (h : postsE a = none) : ∃ ds, a = .tuple ds ∧ 1 ≤ ds.length ∧ ds.length ≤ 6 := by
  unfold postsE at h
  cases hb : tupOfD 1 6 a with
  | false => rw [hb] at h; cases h
  | true =>
    cases a with
    | tuple ds => exact ⟨ds, rfl, by have := of_decide_eq_true hb; omega, by have := of_decide_eq_true hb; omega⟩
    | _ => simp [tupOfD] at hb
end
end Pv

namespace Pv
open PySem PySem.Spec PyProof.Rows L2
abbrev sSp : Stmt := topS 4
theorem scSp : FnScope ["value", "size", "total", "number"] ["value", "size", "total"] (defScope sSp) := ⟨rfl, rfl, rfl, by decide +kernel, rfl, by decide +kernel, by decide +kernel⟩
/-! what a value is, by its data -/
def shareOk (n : Int) (row : List Int) : Bool := row.all (fun x => decide (0 ≤ x ∧ x ≤ n)) && decide (row.sum = n)
def shareD (gp : Gp) (d : PyData) : Bool := match intsOf d with
  | some row => decide (row.length = gp.1.length + 1) && shareOk gp.2 row
  | none => false
theorem shareD_dI (gp : Gp) (row : List Int) : shareD gp (dI row) = (decide (row.length = gp.1.length + 1) && shareOk gp.2 row) := by
  simp [shareD, dI, intsOf, intsAll_ints]
def splitD (n t : Int) (d : PyData) : Bool := match intsOf d with
  | some row => decide ((row.length : Int) = n) && shareOk t row
  | none => false
theorem split_share (gp : Gp) (d : PyData) : splitD ((gp.1.length : Int) + 1) gp.2 d = shareD gp d := by
  unfold splitD shareD
  cases intsOf d with
  | none => rfl
  | some row =>
    simp only
    congr 1
    by_cases h : row.length = gp.1.length + 1
    · rw [decide_eq_true h, decide_eq_true (by omega)]
    · rw [decide_eq_false h, decide_eq_false (by omega)]
section
variable {P : Program} {w : World} {K : PySem.W.Frag} {mg : Str → Option Value} {base : Heap}
theorem splitD_not {n t : Int} {d : PyData} (h : tupOfD n n d = false) : splitD n t d = false := by
  cases e : intsOf d with
  | none => simp [splitD, e]
  | some row =>
    cases d with
    | tuple ds =>
      have e' : intsAll ds = some row := e
      rw [intsAll_eq e'] at h
      simp only [tupOfD, List.length_map, decide_eq_false_iff_not] at h
      have : ¬ (row.length : Int) = n := by omega
      simp [splitD, e, this]
    | _ => simp [intsOf] at e
theorem splitD_out {n t : Int} {ds : List PyData} (h : ds.all (withinD 0 t) = false) : splitD n t (.tuple ds) = false := by
  cases e : intsAll ds with
  | none => simp [splitD, intsOf, e]
  | some row =>
    have e' := intsAll_eq e
    rw [e', List.all_map] at h
    have : row.all (fun x => decide (0 ≤ x ∧ x ≤ t)) = false := h
    simp only [splitD, intsOf, e, shareOk, this, Bool.false_and, Bool.and_false]
theorem splitD_dI (n t : Int) (row : List Int) : splitD n t (dI row) = (decide ((row.length : Int) = n) && shareOk t row) := by
  simp [splitD, dI, intsOf, intsAll_ints]
def rSumT (K : PySem.W.Frag) : RC := fun xs H Q => ∃ (a : Addr) (ns : List Int), xs = [.ref a] ∧ SqT K H a (ns.map V.int) ∧ Q (.int ns.sum) H
theorem call_sumTQ {X : Cx} (hc : X.calm = true) : CallR X (.builtin "sum") (rSumT X.K) := call_sumT hc
def spSplit (K : PySem.W.Frag) : Sp := fun vs H Q _ => ∃ (st r : Addr) (v : V) (d : PyData) (n t : Int), vs = [v, .int n, .int t] ∧ Dq K st r H v d ∧ n ≤ 1000 ∧ ∀ H', Same H H' → Q (.bl (splitD n t d)) H'
theorem ok_Sp {f fTo fWi : Addr} {fd fdTo fdWi : FuncData} (F : Fun K "is_split" "is_split" sSp f fd)
    (FTo : Fun K "is_tuple_of" "is_tuple_of" sTupOf fTo fdTo) (bTo : Binds K fdTo ["value", "least", "most"] []) (gTo : mg "is_tuple_of" = some (.ref fTo)) (GTo : FnOk P w K mg base CX0 1 fTo fdTo ["value", "least", "most"] (spTupOf K))
    (FWi : Fun K "is_within" "is_within" sWithin fWi fdWi) (bWi : Binds K fdWi ["value", "least", "most"] []) (gWi : mg "is_within" = some (.ref fWi)) (GWi : FnOk P w K mg base CX0 2 fWi fdWi ["value", "least", "most"] (spWithin K))
    (m_all : mg "all" = none) (m_sum : mg "sum" = none) :
    FnOk P w K mg base CX0 3 f fd ["value", "size", "total"] (spSplit K) := by
  refine F.ok scSp (fun vs H Q E h => ?_) (fun cdv A outer s H vs Q E hr h => ?_)
  · obtain ⟨st, r, v, d, n, t, rfl, _⟩ := h; rfl
  · obtain ⟨st, r, v, d, n, t, rfl, hv, hlen, q⟩ := h
    refine ⟨_, pss_cons (ps_if (pt_not (pt_val (pe_call GTo (hr.mono (by omega)) (by rfl) gTo FTo.kp bTo .nil pass0 (pa_cons (pv 0) (pa_cons (pv 1) (pa_cons (pv 1) pa_nil))))))
        (pss_one (ps_ret (pe_bl))) pss_nil)
      (pss_one (ps_ret (pe_and (pe_callB (cr_all rfl) (by rfl) m_all (by decide +kernel) (pa_cons (pe_lc (own := [("number", 3)]) (g := gName 3) (tt := tYes) (te := tCall (spWithin K) [] E0 (tCons (tVar 3) (tCons (tC (.int 0)) (tCons (tVar 2) tNil)))) rfl scSp.nd (pi_tup (pv 0)) (blkOk_by (N := ["value", "size", "total", "number"]) (sc := defScope sSp) (by decide +kernel)) (fun _ _ _ _ _ => pg_name (i := 3) scSp.nd rfl (.inl rfl)) (fun _ _ _ _ _ => pts_nil) (fun _ _ _ _ _ => pe_call GWi (hr.mono (by omega)) (by rfl) gWi FWi.kp bWi .nil pass0 (pa_cons (pv 3) (pa_cons (pe_int) (pa_cons (pv 2) pa_nil))))) pa_nil)) (pe_one (pe_cmpR op_eq (pe_callB (call_sumTQ rfl) (by rfl) m_sum (by decide +kernel) (pa_cons (pv 0) pa_nil)) (pv 2) (nomark _)))))), ?_⟩
    refine ⟨v, rfl, .int n, rfl, .int n, rfl, st, r, v, d, _, _, rfl, hv, ?_⟩
    cases hb : tupOfD n n d with
    | false =>
      refine ⟨_, rfl, iteT ?_⟩
      have := q H (Same.refl H)
      rw [splitD_not hb] at this
      exact this
    | true =>
      refine ⟨_, rfl, iteF ?_⟩
      cases d with
      | tuple ds =>
        cases hv with
        | @tup va xs _ hV ha =>
          have hl := DqAll.len ha
          have hdl : (ds.length : Int) = n := by
            have := of_decide_eq_true hb
            omega
          refine ⟨.ref va, rfl, va, rfl, ⟨_, hV⟩, fun D nD => lc_tup (xs := xs)
            (fun i H2 => Same H H2 ∧ H2 D = some (.lst (((ds.take i).map (withinD 0 t)).map V.bl))) ⟨sameNew nD, upd_same⟩ (fun i H2 _ h2 => (TupK.of h2.1).sq hV) ?_ ?_⟩
          · rintro i x H2 hx ⟨s2, e2⟩
            obtain ⟨dx, hdx, hxd⟩ := DqAll.at ha hx
            have hil : i < ds.length := (List.getElem?_eq_some_iff.mp hdx).1
            refine ⟨rfl, x, rfl, .int t, rfl, st, r, x, dx, 0, t, rfl, hxd.lasts (.of s2), _, e2, ?_, samePut s2 nD, ?_⟩
            · rw [List.length_map, List.length_map, List.length_take]; exact small (by omega)
            · rw [upd_same, List.take_add_one, hdx]; simp
          · rintro H2 ⟨s2, e2⟩
            rw [hl, List.take_length] at e2
            refine ⟨D, _, rfl, SqL.of e2, _, rfl, ite2 (fun h1 => ?_) (fun h1 => ?_)⟩
            · rw [List.all_map] at h1
              obtain ⟨row, er, hrow⟩ := within_ints (show ds.all (withinD 0 t) = true from h1)
              subst er
              have hdp : DpAll K H xs (row.map PyData.int) := DqAll.to_dp (to_ints row) ha
              have hxs := DpAll.ints hdp
              subst hxs
              refine ⟨.ref va, rfl, va, row, rfl, (TupK.of s2).sq hV, .int t, rfl, rfl, ?_⟩
              have e : splitD n t (.tuple (row.map PyData.int)) = decide (V.int row.sum = V.int t) := by
                have e1 := splitD_dI n t row
                unfold dI at e1
                rw [e1]
                rw [List.length_map] at hdl
                unfold shareOk
                rw [hrow, decide_eq_true hdl, Bool.true_and, Bool.true_and]
                simp
              have := q H2 s2
              rw [e] at this
              exact this
            · rw [List.all_map] at h1
              have h2 := Bool.eq_false_iff.mpr h1
              have := q H2 s2
              rw [splitD_out (show ds.all (withinD 0 t) = false from h2)] at this
              have e3 : (List.map (withinD 0 t) ds).all id = false := by rw [List.all_map]; exact h2
              first | exact this | (rw [e3]; exact this)
      | _ => simp [tupOfD] at hb
/-! loads -/
def rowLoads (ls : List Int) (ps row : List Int) : List Int := (ps.zip row).foldl (fun l q => addAt l q.1 q.2) ls
def loadsFrom (ls : List Int) (gs : List Gp) (rows : List (List Int)) : List Int := (gs.zip rows).foldl (fun l q => rowLoads l q.1.1 q.2) ls
theorem rowLoads_len (ps row : List Int) (ls : List Int) : (rowLoads ls ps row).length = ls.length := by
  unfold rowLoads
  generalize ps.zip row = z
  induction z generalizing ls with
  | nil => rfl
  | cons q z ih => rw [List.foldl_cons, ih, addAt_len]
theorem rowLoads_take {ls ps row : List Int} {i : Nat} {p x : Int} (hp : ps[i]? = some p) (hx : row[i]? = some x) : rowLoads ls (ps.take (i + 1)) (row.take (i + 1)) = addAt (rowLoads ls (ps.take i) (row.take i)) p x := by
  have h1 : ps.take (i + 1) = ps.take i ++ [p] := by rw [List.take_add_one, hp]; rfl
  have h2 : row.take (i + 1) = row.take i ++ [x] := by rw [List.take_add_one, hx]; rfl
  have l1 := (List.getElem?_eq_some_iff.mp hp).1
  have l2 := (List.getElem?_eq_some_iff.mp hx).1
  unfold rowLoads
  rw [h1, h2, List.zip_append (by rw [List.length_take, List.length_take]; omega), List.foldl_append]
  rfl
theorem loadsFrom_take {ls : List Int} {gs : List Gp} {rows : List (List Int)} {i : Nat} {g : Gp} {row : List Int} (hp : gs[i]? = some g) (hx : rows[i]? = some row) :
    loadsFrom ls (gs.take (i + 1)) (rows.take (i + 1)) = rowLoads (loadsFrom ls (gs.take i) (rows.take i)) g.1 row := by
  have h1 : gs.take (i + 1) = gs.take i ++ [g] := by rw [List.take_add_one, hp]; rfl
  have h2 : rows.take (i + 1) = rows.take i ++ [row] := by rw [List.take_add_one, hx]; rfl
  have l1 := (List.getElem?_eq_some_iff.mp hp).1
  have l2 := (List.getElem?_eq_some_iff.mp hx).1
  unfold loadsFrom
  rw [h1, h2, List.zip_append (by rw [List.length_take, List.length_take]; omega), List.foldl_append]
  rfl
theorem loadsFrom_len (gs : List Gp) (rows : List (List Int)) (ls : List Int) : (loadsFrom ls gs rows).length = ls.length := by
  unfold loadsFrom
  generalize gs.zip rows = z
  induction z generalizing ls with
  | nil => rfl
  | cons q z ih => rw [List.foldl_cons, ih, rowLoads_len]
end
end Pv

namespace Pv
open PySem PySem.Spec PyProof.Rows L2
theorem rowLoads_all (ls ps row : List Int) : rowLoads ls (ps.take (min ps.length row.length)) (row.take (min ps.length row.length)) = rowLoads ls ps row := by
  unfold rowLoads
  rw [zip_take, List.take_of_length_le (by rw [List.length_zip]; exact Nat.le_refl _)]
theorem loadsFrom_all (ls : List Int) (gs : List Gp) (rows : List (List Int)) : loadsFrom ls (gs.take (min gs.length rows.length)) (rows.take (min gs.length rows.length)) = loadsFrom ls gs rows := by
  unfold loadsFrom
  rw [zip_take, List.take_of_length_le (by rw [List.length_zip]; exact Nat.le_refl _)]
def InR (n : Nat) (gs : List Gp) : Prop := ∀ g ∈ gs, g.1.length ≤ 1000 ∧ ∀ p ∈ g.1, 0 ≤ p ∧ p < (n : Int)
def loadsOf (n : Nat) (gs : List Gp) (rows : List (List Int)) : List Int := loadsFrom (zeros n) gs rows
abbrev sLoads : Stmt := topS 7

theorem scLoads : FnScope ["instance", "assignment", "loads", "group", "share", "post", "number"] ["instance", "assignment"] (defScope sLoads) := ⟨rfl, rfl, rfl, by decide +kernel, rfl, by decide +kernel, by decide +kernel⟩
section
variable {P : Program} {w : World} {K : PySem.W.Frag} {mg : Str → Option Value} {base : Heap}
def spLoads (K : PySem.W.Frag) : Sp := fun vs H Q _ => ∃ (i a : Addr) (cs : List Int) (gs : List Gp) (rows : List (List Int)), vs = [.ref i, .ref a] ∧ Dp K H (.ref i) (dInst cs gs) ∧ Dp K H (.ref a) (dAsg rows) ∧
  cs.length ≤ 1000 ∧ InR cs.length gs ∧ ∀ H' p, Same H H' → Dp K H' (.ref p) (dI (loadsOf cs.length gs rows)) → Q (.ref p) H'
set_option maxHeartbeats 2000000 in
theorem ok_loads {f : Addr} {fd : FuncData} {k : Nat} (F : Fun K "post_loads" "post_loads" sLoads f fd) (ml : mg "len" = none) (mz : mg "zip" = none) (mt : mg "tuple" = none) :
    FnOk P w K mg base CX0 (k + 1) f fd ["instance", "assignment"] (spLoads K) := by
  refine F.ok scLoads (fun vs H Q E h => ?_) (fun cdv A outer s H vs Q E hr h => ?_)
  · obtain ⟨i, a, cs, gs, rows, rfl, _⟩ := h; rfl
  · obtain ⟨i, a, cs, gs, rows, rfl, hI, hA, hcs, hin, q⟩ := h
    refine ⟨_, pss_cons (ps_set (i := 2) scLoads.nd rfl (.inl rfl) (pe_op op_rep (pe_lst (pa_cons pe_int pa_nil)) (pe_callB call_len_seq (by rfl) ml PySem.boot_len (pa_cons (pe_ix ix_tup (pv 0) pe_int (fun _ _ => rfl)) pa_nil))))
      (pss_cons (ps_for PassesOwn.never rfl (RZ.pi_zipA (by rfl) mz (pa_cons (pe_ix ix_tup (pv 0) pe_int (fun _ _ => rfl)) (pa_cons (pv 1) pa_nil)))
          (pg_tup rfl (pgs_cons (pg_name (i := 3) scLoads.nd rfl (.inl rfl)) (pgs_cons (pg_name (i := 4) scLoads.nd rfl (.inl rfl)) pgs_nil)))
          (pss_one (ps_for PassesOwn.never rfl (RZ.pi_zipA (by rfl) mz (pa_cons (pe_ix ix_tup (pv 3) pe_int (fun _ _ => rfl)) (pa_cons (pv 4) pa_nil)))
            (pg_tup rfl (pgs_cons (pg_name (i := 5) scLoads.nd rfl (.inl rfl)) (pgs_cons (pg_name (i := 6) scLoads.nd rfl (.inl rfl)) pgs_nil)))
            (pss_one (ps_augS (pv 2) (pv 5) get_list (pv 6) ip_add set_list)))))
      (pss_one (ps_ret (pe_callTy call_tuple_of (by rfl) mt (by decide +kernel) (pa_cons (pv 2) pa_nil))))), ?_⟩
    obtain ⟨_, ca, ga, xs, e, hi, hc, hg, hgs⟩ := inst_open hI
    cases e
    obtain ⟨_, ys, e, ha, hrows⟩ := asg_open hA
    cases e
    -- loads = [0] * len(instance[0])
    refine ⟨by decide, fun p0 n0 => ⟨.ref i, rfl, i, _, 0, .ref ca, rfl, rfl, (TupK.new n0).sq hi, atI_nat (j := 0) rfl, ca, _, rfl, .inr ((TupK.new n0).sq hc), p0, _, _, rfl, rfl, upd_same, by omega, ?_, ?_, fun L nL => ?_⟩⟩
    · rw [List.length_map]; omega
    · rw [List.length_map]; show 1 * _ ≤ sizeLine; have := small (n := cs.length) (by omega); simp; omega
    have fL : H L = none := freeOf nL
    have s1 : Same H (upd (upd H p0 (.lst [.int 0])) L (.lst (List.replicate ((List.map V.int cs).length : Int).toNat [V.int 0]).flatten)) := samePut (sameNew n0) fL
    -- the groups
    refine ⟨.ref i, rfl, i, _, 1, .ref ga, rfl, rfl, (TupK.of s1).sq hi, atI_nat (j := 1) rfl, .ref a, rfl, ga, a, xs, ys, rfl, .inr ⟨(TupK.of s1).sq hg, (TupK.of s1).sq ha, for_it (walk_zipT (K := K) (a := ga) (b := a) (xs := xs) (ys := ys) rfl)
      (fun i' σ H2 => ∃ y3 y4 y5 y6, σ = [some (.ref i), some (.ref a), some (.ref L), y3, y4, y5, y6] ∧ Same H H2 ∧ H2 L = some (.lst ((loadsFrom (zeros cs.length) (gs.take i') (rows.take i')).map V.int)))
      ⟨none, none, none, none, rfl, s1, ?_⟩ ?_ ?_ ?_⟩⟩
    · rw [upd_same, zeros_V, List.length_map]; simp [loadsFrom]
    · rintro i' σ H2 _ ⟨y3, y4, y5, y6, rfl, s2, e2⟩
      exact ⟨(TupK.of s2).sq hg, (TupK.of s2).sq ha⟩
    · rintro i' v σ H2 H3 hlt ⟨y3, y4, y5, y6, rfl, s2, e2⟩ ⟨T, x, y, rfl, nT, rfl, hx, hy⟩
      have hx' : xs[i']? = some x := hx
      have hy' : ys[i']? = some y := hy
      obtain ⟨d, hd, hxd⟩ := DpAll.at hgs hx'
      rw [List.getElem?_map] at hd
      obtain ⟨g, hgi, rfl⟩ := Option.map_eq_some_iff.mp hd
      obtain ⟨d, hd, hyd⟩ := DpAll.at hrows hy'
      rw [List.getElem?_map] at hd
      obtain ⟨row, hri, rfl⟩ := Option.map_eq_some_iff.mp hd
      have s3 : Same H (upd H2 T (.tup [x, y])) := s2.trans (sameNew nT)
      obtain ⟨gA, pA, rfl, hG, hP⟩ := grp_ref hxd
      obtain ⟨rA, rfl, hR⟩ := dI_ref hyd
      have e3 : (upd H2 T (.tup [.ref gA, .ref rA])) L = some (.lst ((loadsFrom (zeros cs.length) (gs.take i') (rows.take i')).map V.int)) := upNew nT e2
      have tk3 := TupK.of s3
      refine ⟨T, _, rfl, SqT.of upd_same, rfl, _, _, rfl, _, _, rfl, rfl, ?_⟩
      refine ⟨.ref gA, rfl, gA, _, 0, .ref pA, rfl, rfl, tk3.sq hG, atI_nat (j := 0) rfl, .ref rA, rfl, pA, rA, _, _, rfl, .inr ⟨tk3.sq hP, tk3.sq hR, for_it (walk_zipT (K := K) (a := pA) (b := rA) (xs := g.1.map V.int) (ys := row.map V.int) rfl)
        (fun j σ H4 => ∃ y5 y6, σ = [some (.ref i), some (.ref a), some (.ref L), some (.ref gA), some (.ref rA), y5, y6] ∧ Same H H4 ∧
          H4 L = some (.lst ((rowLoads (loadsFrom (zeros cs.length) (gs.take i') (rows.take i')) (g.1.take j) (row.take j)).map V.int)))
        ⟨y5, y6, rfl, s3, by simpa [rowLoads] using e3⟩ ?_ ?_ ?_⟩⟩
      · rintro j σ H4 _ ⟨y5, y6, rfl, s4, e4⟩
        exact ⟨(TupK.of s4).sq hP, (TupK.of s4).sq hR⟩
      · rintro j v σ H4 H5 hltj ⟨y5, y6, rfl, s4, e4⟩ ⟨T2, x, y, rfl, nT2, rfl, hx2, hy2⟩
        have hx2' : (g.1.map V.int)[j]? = some x := hx2
        have hy2' : (row.map V.int)[j]? = some y := hy2
        rw [List.getElem?_map] at hx2' hy2'
        obtain ⟨pp, hpp, rfl⟩ := Option.map_eq_some_iff.mp hx2'
        obtain ⟨nn, hnn, rfl⟩ := Option.map_eq_some_iff.mp hy2'
        have e5 := upNew (o := .tup [.int pp, .int nn]) nT2 e4
        have hpr := (hin g (List.mem_of_getElem? hgi)).2 pp (List.mem_of_getElem? hpp)
        obtain ⟨pn, rfl⟩ : ∃ pn : Nat, pp = pn := ⟨pp.toNat, by omega⟩
        have hrl := rowLoads_take (ls := loadsFrom (zeros cs.length) (gs.take i') (rows.take i')) hpp hnn
        generalize hcur : rowLoads (loadsFrom (zeros cs.length) (gs.take i') (rows.take i')) (g.1.take j) (row.take j) = cur at e4 e5 hrl
        have hcl : cur.length = cs.length := by rw [← hcur, rowLoads_len, loadsFrom_len]; simp [zeros]
        have hpl : pn < cur.length := by omega
        refine ⟨T2, _, rfl, SqT.of upd_same, rfl, _, _, rfl, _, _, rfl, rfl, ?_⟩
        refine ⟨.ref L, rfl, .int pn, rfl, L, _, pn, .int cur[pn], rfl, rfl, SqL.of e5, by rw [List.getElem?_map, List.getElem?_eq_getElem hpl]; rfl, .int nn, rfl, _, _, rfl, rfl, L, _, _, pn, rfl, rfl, e5, ixN_nat (by rw [List.length_map]; exact hpl), ?_⟩
        refine ⟨_, _, rfl, samePut (s4.trans (sameNew nT2)) fL, ?_⟩
        rw [upd_same, hrl]
        unfold addAt
        rw [Int.toNat_natCast, List.getD_eq_getElem?_getD, List.getElem?_eq_getElem hpl, List.map_set]
        rfl
      · rintro σ H4 ⟨y5, y6, rfl, s4, e4⟩
        refine ⟨_, _, _, _, rfl, s4, ?_⟩
        rw [loadsFrom_take hgi hri]
        rw [List.length_map, List.length_map, rowLoads_all] at e4
        exact e4
    · rintro σ H2 ⟨y3, y4, y5, y6, rfl, s2, e2⟩
      rw [DpAll.len hgs, DpAll.len hrows, List.length_map, List.length_map, loadsFrom_all] at e2
      refine ⟨.ref L, rfl, L, _, rfl, .inl ⟨SqL.of e2, fun p np => q _ _ (s2.trans (sameNew np)) (dI_sq (SqT.of upd_same))⟩⟩
end
end Pv

namespace Pv
open PySem PySem.Spec PyProof.Rows L2
def Shp (gs : List Gp) (rows : List (List Int)) : Prop := rows.length = gs.length ∧ ∀ (i : Nat) (g : Gp) (row : List Int), gs[i]? = some g → rows[i]? = some row → row.length = g.1.length + 1
def rowD (d : PyData) : List Int := (intsOf d).getD []
def isAD (cs : List Int) (gs : List Gp) : PyData → Bool
  | .tuple ds => decide (ds.length = gs.length) && ((gs.zip ds).all (fun q => shareD q.1 q.2) && ((loadsOf cs.length gs (ds.map rowD)).zip cs).all (fun q => decide (q.1 ≤ q.2)))
  | _ => false
theorem isAD_tup (cs : List Int) (gs : List Gp) (ds : List PyData) : isAD cs gs (.tuple ds) = (decide (ds.length = gs.length) && ((gs.zip ds).all (fun q => shareD q.1 q.2) && ((loadsOf cs.length gs (ds.map rowD)).zip cs).all (fun q => decide (q.1 ≤ q.2)))) := rfl
theorem shareD_row {g : Gp} {d : PyData} (h : shareD g d = true) : d = dI (rowD d) ∧ (rowD d).length = g.1.length + 1 ∧ shareOk g.2 (rowD d) = true := by
  unfold shareD at h
  cases e : intsOf d with
  | none => rw [e] at h; simp at h
  | some row =>
    rw [e] at h
    have hr : rowD d = row := by unfold rowD; rw [e]; rfl
    rw [hr]
    have h' : decide (row.length = g.1.length + 1) = true ∧ shareOk g.2 row = true := by simpa using h
    refine ⟨?_, of_decide_eq_true h'.1, h'.2⟩
    cases d with
    | tuple ds => have e' : intsAll ds = some row := e; rw [intsAll_eq e']; rfl
    | _ => simp [intsOf] at e
theorem rows_all : ∀ {gs : List Gp} {ds : List PyData}, ds.length = gs.length → (gs.zip ds).all (fun q => shareD q.1 q.2) = true → ds = (ds.map rowD).map dI
  | [], ds, hl, _ => by
    cases ds with
    | nil => rfl
    | cons d ds => simp at hl
  | g :: gs, ds, hl, h => by
    cases ds with
    | nil => rfl
    | cons d ds =>
      rw [List.zip_cons_cons, List.all_cons, Bool.and_eq_true] at h
      have e1 := (shareD_row h.1).1
      have e2 := rows_all (gs := gs) (ds := ds) (by simpa using hl) h.2
      rw [List.map_cons, List.map_cons, ← e1, ← e2]
theorem zip_at {gs : List Gp} {ds : List PyData} (h : (gs.zip ds).all (fun q => shareD q.1 q.2) = true) {i : Nat} {g : Gp} {d : PyData} (hg : gs[i]? = some g) (hd : ds[i]? = some d) : shareD g d = true := by
  have hm : (g, d) ∈ gs.zip ds := List.mem_of_getElem? (i := i) (by rw [List.getElem?_zip_eq_some]; exact ⟨hg, hd⟩)
  exact List.all_eq_true.mp h _ hm
abbrev sIA : Stmt := topS 6
theorem scIA : FnScope ["instance", "value", "capacities", "groups", "posts", "count", "share", "load", "capacity"] ["instance", "value"] (defScope sIA) := ⟨rfl, rfl, rfl, by decide +kernel, rfl, by decide +kernel, by decide +kernel⟩
section
variable {P : Program} {w : World} {K : PySem.W.Frag} {mg : Str → Option Value} {base : Heap}
def spIsA (K : PySem.W.Frag) : Sp := fun vs H Q _ => ∃ (st r i : Addr) (v : V) (cs : List Int) (gs : List Gp) (d : PyData), vs = [.ref i, v] ∧ Dp K H (.ref i) (dInst cs gs) ∧ Dq K st r H v d ∧
  cs.length ≤ 900 ∧ gs.length ≤ 900 ∧ InR cs.length gs ∧ (∀ g ∈ gs, g.1.length ≤ 900) ∧ ∀ H', Same H H' → Q (.bl (isAD cs gs d)) H'
set_option maxHeartbeats 2000000 in
theorem ok_IA {f fTo fSp fLo : Addr} {fd fdTo fdSp fdLo : FuncData} (F : Fun K "is_assignment" "is_assignment" sIA f fd)
    (FTo : Fun K "is_tuple_of" "is_tuple_of" sTupOf fTo fdTo) (bTo : Binds K fdTo ["value", "least", "most"] []) (gTo : mg "is_tuple_of" = some (.ref fTo)) (GTo : FnOk P w K mg base CX0 1 fTo fdTo ["value", "least", "most"] (spTupOf K))
    (FSp : Fun K "is_split" "is_split" sSp fSp fdSp) (bSp : Binds K fdSp ["value", "size", "total"] []) (gSp : mg "is_split" = some (.ref fSp)) (GSp : FnOk P w K mg base CX0 3 fSp fdSp ["value", "size", "total"] (spSplit K))
    (FLo : Fun K "post_loads" "post_loads" sLoads fLo fdLo) (bLo : Binds K fdLo ["instance", "assignment"] []) (gLo : mg "post_loads" = some (.ref fLo)) (GLo : FnOk P w K mg base CX0 1 fLo fdLo ["instance", "assignment"] (spLoads K))
    (m_len : mg "len" = none) (m_zip : mg "zip" = none) (m_all : mg "all" = none) :
    FnOk P w K mg base CX0 4 f fd ["instance", "value"] (spIsA K) := by
  refine F.ok scIA (fun vs H Q E h => ?_) (fun cdv A outer s H vs Q E hr h => ?_)
  · obtain ⟨st, r, i, v, cs, gs, d, rfl, _⟩ := h; rfl
  · obtain ⟨st, r, i, v, cs, gs, d, rfl, hI, hA, hcs, hgn, hin, hgl, q⟩ := h
    refine ⟨_, pss_cons (ps_asg (pv 0) (pg_tup rfl (pgs_cons (pg_name (i := 2) scIA.nd rfl (.inl rfl)) (pgs_cons (pg_name (i := 3) scIA.nd rfl (.inl rfl)) pgs_nil))))
      (pss_cons (ps_if (pt_not (pt_val (pe_call GTo (hr.mono (by omega)) (by rfl) gTo FTo.kp bTo .nil pass0 (pa_cons (pv 1) (pa_cons (pe_callB call_lenQ (by rfl) m_len PySem.boot_len (pa_cons (pv 3) pa_nil)) (pa_cons (pe_callB call_lenQ (by rfl) m_len PySem.boot_len (pa_cons (pv 3) pa_nil)) pa_nil))))))
        (pss_one (ps_ret (pe_bl))) pss_nil)
      (pss_cons (ps_if (pt_not (pt_val (pe_callB (cr_all rfl) (by rfl) m_all (by decide +kernel) (pa_cons (pe_lc (own := [("posts", 4), ("count", 5), ("share", 6)]) (g := gTup K 2 (gCons (gTup K 2 (gCons (gName 4) (gCons (gName 5) gNil))) (gCons (gName 6) gNil))) (tt := tYes) (te := tCall (spSplit K) [] E0 (tCons (tVar 6) (tCons (tOp (rI0 fun i j => .int (i + j)) (tCB (rLenQ K) (tCons (tVar 4) tNil)) (tC (.int 1))) (tCons (tVar 5) tNil)))) rfl scIA.nd (RZ.pi_zipA (by rfl) m_zip (pa_cons (pv 3) (pa_cons (pv 1) pa_nil))) (blkOk_by (N := ["instance", "value", "capacities", "groups", "posts", "count", "share", "load", "capacity"]) (sc := defScope sIA) (by decide +kernel)) (fun _ _ _ _ _ => pg_tup rfl (pgs_cons (pg_tup rfl (pgs_cons (pg_name (i := 4) scIA.nd rfl (.inl rfl)) (pgs_cons (pg_name (i := 5) scIA.nd rfl (.inl rfl)) pgs_nil))) (pgs_cons (pg_name (i := 6) scIA.nd rfl (.inl rfl)) pgs_nil))) (fun _ _ _ _ _ => pts_nil) (fun _ _ _ _ _ => pe_call GSp (hr.mono (by omega)) (by rfl) gSp FSp.kp bSp .nil pass0 (pa_cons (pv 6) (pa_cons (pe_op op_add (pe_callB call_lenQ (by rfl) m_len PySem.boot_len (pa_cons (pv 4) pa_nil)) (pe_int)) (pa_cons (pv 5) pa_nil))))) pa_nil))))
        (pss_one (ps_ret (pe_bl))) pss_nil)
      (pss_one (ps_ret (pe_callB (cr_all rfl) (by rfl) m_all (by decide +kernel) (pa_cons (pe_lc (own := [("load", 7), ("capacity", 8)]) (g := gTup K 2 (gCons (gName 7) (gCons (gName 8) gNil))) (tt := tYes) (te := tOp (rI0 fun i j => .bl (decide (i ≤ j))) (tVar 7) (tVar 8)) rfl scIA.nd (RZ.pi_zipA (by rfl) m_zip (pa_cons (pe_call GLo (hr.mono (by omega)) (by rfl) gLo FLo.kp bLo .nil pass0 (pa_cons (pv 0) (pa_cons (pv 1) pa_nil))) (pa_cons (pv 2) pa_nil))) (blkOk_by (N := ["instance", "value", "capacities", "groups", "posts", "count", "share", "load", "capacity"]) (sc := defScope sIA) (by decide +kernel)) (fun _ _ _ _ _ => pg_tup rfl (pgs_cons (pg_name (i := 7) scIA.nd rfl (.inl rfl)) (pgs_cons (pg_name (i := 8) scIA.nd rfl (.inl rfl)) pgs_nil))) (fun _ _ _ _ _ => pts_nil) (fun _ _ _ _ _ => pe_cmpR op_le (pv 7) (pv 8) (nomark _))) pa_nil)))))), ?_⟩
    obtain ⟨_, ca, ga, xs, e, hi, hc, hg, hgs⟩ := inst_open hI
    cases e
    have lx := DpAll.len hgs
    rw [List.length_map] at lx
    refine ⟨.ref i, rfl, i, _, rfl, hi, rfl, .ref ca, _, rfl, .ref ga, _, rfl, rfl, ?_⟩
    refine ⟨v, rfl, .ref ga, rfl, ga, xs, rfl, .inr hg, .ref ga, rfl, ga, xs, rfl, .inr hg, st, r, v, d, _, _, rfl, hA, ?_⟩
    rw [lx]
    cases hb : tupOfD (gs.length : Int) (gs.length : Int) d with
    | false =>
      refine ⟨_, rfl, iteT ?_⟩
      have e : isAD cs gs d = false := by
        cases d with
        | tuple ds =>
          have h1 := of_decide_eq_false hb
          have : ¬ ds.length = gs.length := by omega
          simp [isAD, this]
        | _ => rfl
      have := q H (Same.refl H)
      rw [e] at this
      exact this
    | true =>
    refine ⟨_, rfl, iteF ?_⟩
    cases d with
    | none | bool _ | int _ | str _ | list _ | dict _ => simp [tupOfD] at hb
    | tuple ds =>
    cases hA with
    | @tup a ys _ ha hds =>
    have ly := DqAll.len hds
    have hdl : ds.length = gs.length := by have := of_decide_eq_true hb; omega
    refine ⟨.ref ga, rfl, .ref a, rfl, ga, a, xs, ys, rfl, .inr ⟨hg, ha, fun D nD => lc_it (walk_zipT (K := K) (a := ga) (b := a) (xs := xs) (ys := ys) rfl)
      (fun j H2 => Same H H2 ∧ H2 D = some (.lst ((((gs.take j).zip (ds.take j)).map (fun q => shareD q.1 q.2)).map V.bl))) ⟨sameNew nD, upd_same⟩ (fun j H2 _ h2 => ⟨(TupK.of h2.1).sq hg, (TupK.of h2.1).sq ha⟩) ?_ ?_⟩⟩
    · rintro j v H2 H3 hlt ⟨s2, e2⟩ ⟨T, x, y, rfl, nT, rfl, hx, hy⟩
      have hx' : xs[j]? = some x := hx
      have hy' : ys[j]? = some y := hy
      obtain ⟨d, hd, hxd⟩ := DpAll.at hgs hx'
      rw [List.getElem?_map] at hd
      obtain ⟨g, hgi, rfl⟩ := Option.map_eq_some_iff.mp hd
      obtain ⟨dy, hdy, hyd⟩ := DqAll.at hds hy'
      obtain ⟨gA, pA, rfl, hG, hP⟩ := grp_ref hxd
      have s3 : Same H (upd H2 T (.tup [.ref gA, y])) := s2.trans (sameNew nT)
      have tk3 := TupK.of s3
      have hgl' := hgl g (List.mem_of_getElem? hgi)
      have hjl : j < gs.length := (List.getElem?_eq_some_iff.mp hgi).1
      refine ⟨T, _, rfl, SqT.of upd_same, rfl, _, _, rfl, gA, _, rfl, tk3.sq hG, rfl, _, _, rfl, _, _, rfl, rfl, _, _, rfl, rfl, rfl, y, rfl, .ref pA, rfl, pA, _, rfl, .inr (tk3.sq hP), _, _, rfl, rfl, .int g.2, rfl, st, r, y, dy, _, _, rfl, hyd.lasts (.of s3), by rw [List.length_map]; omega, fun H4 s4 => ⟨_, s4 _ _ (upNew nT e2), ?_, samePut (s3.trans s4) nD, ?_⟩⟩
      · rw [List.length_map, List.length_map, List.length_zip, List.length_take]; exact small (by omega)
      · rw [upd_same, zip_snoc hgi hdy, List.length_map, split_share]; simp
    · rintro H2 ⟨s2, e2⟩
      rw [lx, ly, zip_take, List.take_of_length_le (by rw [List.length_zip]; exact Nat.le_refl _)] at e2
      refine ⟨D, _, rfl, SqL.of e2, _, rfl, ?_⟩
      have tk2 := TupK.of s2
      cases hall : ((gs.zip ds).map (fun q => shareD q.1 q.2)).all id with
      | false =>
        have e : isAD cs gs (.tuple ds) = false := by
          rw [isAD_tup]
          rw [List.all_map] at hall
          rw [show (gs.zip ds).all (fun q => shareD q.1 q.2) = false from hall, Bool.false_and, Bool.and_false]
        have := q H2 s2
        rw [e] at this
        exact this
      | true =>
        rw [List.all_map] at hall
        have hall' : (gs.zip ds).all (fun q => shareD q.1 q.2) = true := hall
        have e : isAD cs gs (.tuple ds) = ((loadsOf cs.length gs (ds.map rowD)).zip cs).all (fun q => decide (q.1 ≤ q.2)) := by
          rw [isAD_tup, hall', Bool.true_and, decide_eq_true hdl, Bool.true_and]
        have hR := rows_all hdl hall'
        generalize hrw : ds.map rowD = rows at e hR
        have hA2 : Dp K H (.ref a) (dAsg rows) := by
          have : Dq K st r H (.ref a) (dAsg rows) := by unfold dAsg; rw [← hR]; exact .tup ha hds
          exact this.to_dp (to_dAsg rows)
        refine ⟨.ref i, rfl, .ref a, rfl, i, a, cs, gs, rows, rfl, tk2.dp _ _ (to_dInst _ _) hI, tk2.dp _ _ (to_dAsg _) hA2, by omega, hin, fun H3 p s3 hp => ?_⟩
        have sp := sq_dI hp
        have s03 := s2.trans s3
        have hc3 := (TupK.of s03).sq hc
        refine ⟨.ref ca, rfl, p, ca, _, _, rfl, .inr ⟨sp, hc3, fun D2 nD2 => lc_it (walk_zipT (K := K) (a := p) (b := ca) (xs := (loadsOf cs.length gs rows).map V.int) (ys := cs.map V.int) rfl)
          (fun j H4 => Same H3 H4 ∧ H4 D2 = some (.lst (((((loadsOf cs.length gs rows).take j).zip (cs.take j)).map (fun q => decide (q.1 ≤ q.2))).map V.bl))) ⟨sameNew nD2, upd_same⟩ (fun j H4 _ h4 => ⟨(TupK.of h4.1).sq sp, (TupK.of h4.1).sq hc3⟩) ?_ ?_⟩⟩
        · rintro j v H4 H5 hlt ⟨s4, e4⟩ ⟨T, x, y, rfl, nT, rfl, hx, hy⟩
          have hx' : ((loadsOf cs.length gs rows).map V.int)[j]? = some x := hx
          have hy' : (cs.map V.int)[j]? = some y := hy
          rw [List.getElem?_map] at hx' hy'
          obtain ⟨l, hl, rfl⟩ := Option.map_eq_some_iff.mp hx'
          obtain ⟨c, hcj, rfl⟩ := Option.map_eq_some_iff.mp hy'
          have hjl : j < cs.length := (List.getElem?_eq_some_iff.mp hcj).1
          refine ⟨T, _, rfl, SqT.of upd_same, rfl, _, _, rfl, _, _, rfl, rfl, rfl, .int l, rfl, .int c, rfl, _, _, rfl, rfl, _, upNew nT e4, ?_, samePut (s4.trans (sameNew nT)) nD2, ?_⟩
          · rw [List.length_map, List.length_map, List.length_zip, List.length_take, List.length_take]; exact small (by omega)
          · rw [upd_same, zip_snoc hl hcj]; simp
        · rintro H4 ⟨s4, e4⟩
          rw [List.length_map, List.length_map, zip_take, List.take_of_length_le (by rw [List.length_zip]; exact Nat.le_refl _)] at e4
          refine ⟨D2, _, rfl, SqL.of e4, ?_⟩
          have := q H4 (s03.trans s4)
          rw [e] at this
          rw [List.all_map]
          exact this
end
end Pv

namespace Pv
open PySem PySem.Spec PyProof.Rows L2
/-! no tuple is long -/
mutual
def nar (L : Nat) : PyData → Prop
  | .tuple xs => xs.length ≤ L ∧ narAll L xs
  | .list xs => narAll L xs
  | _ => True
def narAll (L : Nat) : List PyData → Prop
  | [] => True
  | x :: xs => nar L x ∧ narAll L xs
end
theorem narAll_iff {L : Nat} : ∀ {xs : List PyData}, narAll L xs ↔ ∀ x ∈ xs, nar L x
  | [] => by simp [narAll]
  | x :: xs => by simp [narAll, narAll_iff (xs := xs)]
theorem nar_tup {L : Nat} {xs : List PyData} : nar L (.tuple xs) ↔ xs.length ≤ L ∧ ∀ x ∈ xs, nar L x := by simp only [nar, narAll_iff]
end Pv

namespace Pv
open PySem PySem.Spec PyProof.Rows L2
abbrev sSame : Stmt := topS 24
theorem scSame : FnScope ["_law_found", "_law_due_here", "_law_k"] ["_law_found", "_law_due_here"] (defScope sSame) := ⟨rfl, rfl, rfl, by decide +kernel, rfl, by decide +kernel, by decide +kernel⟩
mutual
def plain : PyData → Bool
  | .none | .int _ | .bool _ | .str _ => true
  | .list xs | .tuple xs => decide (xs.length ≤ 1000) && plainAll xs
  | _ => false
def plainAll : List PyData → Bool
  | [] => true
  | x :: xs => plain x && plainAll xs
end
theorem plainAll_at : ∀ {xs : List PyData} {i : Nat} {d : PyData}, plainAll xs = true → xs[i]? = some d → plain d = true
  | [], _, _, _, e => by simp at e
  | x :: xs, 0, d, h, e => by simp [plainAll] at h e; subst e; exact h.1
  | x :: xs, i + 1, d, h, e => by simp [plainAll] at h e; exact plainAll_at h.2 e
theorem depthAll_at : ∀ {xs : List PyData} {i : Nat} {d : PyData}, xs[i]? = some d → d.depth ≤ PyData.depthAll xs
  | [], _, _, e => by simp at e
  | x :: xs, 0, d, e => by simp at e; subst e; simp only [PyData.depthAll]; omega
  | x :: xs, i + 1, d, e => by
    have := depthAll_at (xs := xs) (i := i) (d := d) (by simpa using e)
    simp only [PyData.depthAll]; omega
inductive SeqAs (K : PySem.W.Frag) (H : Hp) (a : Addr) (xs : List V) : String → Prop
  | l : SqL K H a xs → SeqAs K H a xs "list"
  | t : SqT K H a xs → SeqAs K H a xs "tuple"
section
variable {K : PySem.W.Frag} {H H' : Hp} {a : Addr} {xs : List V} {T : String}
theorem SeqAs.same (h : SeqAs K H a xs T) (s : Same H H') : SeqAs K H' a xs T := by
  cases h with
  | l h => exact .l (s.seq h)
  | t h => exact .t ((TupK.of s).sq h)
theorem SeqAs.ty (h : SeqAs K H a xs T) : TyX K H (.ref a) (.type T) := by
  cases h with
  | l h => exact ty_sqL h
  | t h => exact ty_sq h
theorem SeqAs.or (h : SeqAs K H a xs T) : SqL K H a xs ∨ SqT K H a xs := by
  cases h with
  | l h => exact .inl h
  | t h => exact .inr h
theorem SeqAs.ix (h : SeqAs K H a xs T) {j : Nat} {v : V} {Q : VK} (e : xs[j]? = some v) (q : Q v H) : rIx K (.ref a) (.int j) H Q := by
  cases h with
  | l h => exact .inl ⟨a, xs, _, v, rfl, rfl, h, atI_nat e, q⟩
  | t h => exact .inr (.inl ⟨a, xs, _, v, rfl, rfl, h, atI_nat e, q⟩)
theorem SeqAs.kit (h : SeqAs K H a xs T) (S : String) (hS : S = "list" ∨ S = "tuple") : PySem.W.kitOne K (.type T) (.type S) = some (T == S) := by
  cases h <;> rcases hS with rfl | rfl <;> exact kit_ty (by decide +kernel)
theorem SeqAs.kits (h : SeqAs K H a xs T) : PySem.W.kitAny K (.type T) [.type "list", .type "tuple"] = some true := by
  cases h with
  | l h => exact kitAny_cons (kit_ty (b := "list") (r := true) (by decide +kernel)) (fun z => by cases z) (fun _ => rfl)
  | t h => exact kitAny_cons (kit_ty (b := "list") (r := false) (by decide +kernel)) (fun _ => kitAny_cons (kit_ty (b := "tuple") (r := true) (by decide +kernel)) (fun z => by cases z) (fun _ => rfl)) (fun z => by cases z)
end
section
variable {P : Program} {w : World} {K : PySem.W.Frag} {mg : Str → Option Value} {base : Heap}
def spS (K : PySem.W.Frag) : Nat → Sp
  | 0 => fun _ _ _ _ => False
  | n + 1 => fun vs H Q _ => ∃ (x y : V) (d : PyData), vs = [x, y] ∧ Dp K H x d ∧ Dp K H y d ∧ plain d = true ∧ d.depth ≤ n ∧ ∀ H', Same H H' → Q (.bl true) H'
mutual
theorem same_dp {H H' : Hp} (s : Same H H') : ∀ {d : PyData} {v : V}, plain d = true → Dp K H v d → Dp K H' v d
  | .none, _, _, h => by cases h; exact .non
  | .int _, _, _, h => by cases h; exact .int _
  | .list xs, _, t, h => by
    simp only [plain, Bool.and_eq_true] at t
    cases h with
    | lst h1 h2 => exact .lst (s.seq h1) (same_dpAll s t.2 h2)
  | .tuple xs, _, t, h => by
    simp only [plain, Bool.and_eq_true] at t
    cases h with
    | tup h1 h2 => exact .tup ((TupK.of s).sq h1) (same_dpAll s t.2 h2)
  | .bool _, _, _, h => by cases h; exact .bl _
  | .str _, _, _, h => by cases h; exact .str _
  | .dict _, _, t, _ => by simp [plain] at t
theorem same_dpAll {H H' : Hp} (s : Same H H') : ∀ {ds : List PyData} {vs : List V}, plainAll ds = true → DpAll K H vs ds → DpAll K H' vs ds
  | [], _, _, h => by cases h; exact .nil
  | d :: ds, _, t, h => by
    simp only [plainAll, Bool.and_eq_true] at t
    cases h with
    | cons h1 h2 => exact .cons (same_dp s t.1 h1) (same_dpAll s t.2 h2)
end
theorem eqv_nil : PyData.eqv (.list []) (.list []) = true := by simp [PyData.eqv, PyData.eqvAll]
set_option maxHeartbeats 4000000 in
theorem ok_same {f : Addr} {fd : FuncData} (F : Fun K "_law_same" "_law_same" sSame f fd) (b : Binds K fd ["_law_found", "_law_due_here"] []) (g : mg "_law_same" = some (.ref f))
    (mi : mg "isinstance" = none) (mli : mg "list" = none) (mt : mg "tuple" = none) (ml : mg "len" = none) (mr : mg "range" = none) (mst : mg "str" = none) (mint : mg "int" = none) (mbo : mg "bool" = none) :
    ∀ n, FnOk P w K mg base CX0 n f fd ["_law_found", "_law_due_here"] (spS K n)
  | 0 => FnOk.none
  | n + 1 => by
    have G := ok_same F b g mi mli mt ml mr mst mint mbo n
    refine F.ok scSame (fun vs H Q E h => ?_) (fun cdv A outer s H vs Q E hr h => ?_)
    · obtain ⟨x, y, d, rfl, _⟩ := h; rfl
    · obtain ⟨x, y, d, rfl, hx, hy, hpl, hdp, q⟩ := h
      have hu64 : (A.deeper (envOfC "_law_same" (defScope sSame) s.heap.objs.size f cdv)).units + 64 < cLine := by have := hr.un; omega
      refine ⟨_, pss_cons (ps_if (pt_val (pe_callB call_isiT (by rfl) mi (by decide +kernel) (pa_cons (pv 1) (pa_cons (pe_tup (pa_cons (pe_bltn (v := .ty "list") (by rfl) mli (by decide +kernel) rfl) (pa_cons (pe_bltn (v := .ty "tuple") (by rfl) mt (by decide +kernel) rfl) pa_nil))) pa_nil))))
          (pss_cons (ps_if (PW.pt (pw_or (pt_cmpR op_ne (pe_callB call_isi (by rfl) mi (by decide +kernel) (pa_cons (pv 0) (pa_cons (pe_bltn (v := .ty "list") (by rfl) mli (by decide +kernel) rfl) pa_nil)))
                (pe_callB call_isi (by rfl) mi (by decide +kernel) (pa_cons (pv 1) (pa_cons (pe_bltn (v := .ty "list") (by rfl) mli (by decide +kernel) rfl) pa_nil))) (nomark _))
              (pw_or1 (pt_cmpR op_ne (pe_callB call_isi (by rfl) mi (by decide +kernel) (pa_cons (pv 0) (pa_cons (pe_bltn (v := .ty "tuple") (by rfl) mt (by decide +kernel) rfl) pa_nil)))
                (pe_callB call_isi (by rfl) mi (by decide +kernel) (pa_cons (pv 1) (pa_cons (pe_bltn (v := .ty "tuple") (by rfl) mt (by decide +kernel) rfl) pa_nil))) (nomark _))))) (pss_one (ps_ret pe_bl)) pss_nil)
          (pss_cons (ps_if (pt_cmpR op_ne (pe_callB call_len_seq (by rfl) ml PySem.boot_len (pa_cons (pv 0) pa_nil)) (pe_callB call_len_seq (by rfl) ml PySem.boot_len (pa_cons (pv 1) pa_nil)) (nomark _)) (pss_one (ps_ret pe_bl)) pss_nil)
          (pss_one (ps_ret (pe_cmpR (op_eqD hu64)
            (pe_lc (own := [("_law_k", 2)]) (g := gName 2) (tt := tNot (tB (tCall (spS K n) [] E0 (tCons (tOp (rIx K) (tVar 0) (tVar 2)) (tCons (tOp (rIx K) (tVar 1) (tVar 2)) tNil))))) (te := tVar 2) rfl scSame.nd
              (pi_range1 (by rfl) mr (pa_cons (pe_callB call_len_seq (by rfl) ml PySem.boot_len (pa_cons (pv 1) pa_nil)) pa_nil)) (blkOk_by (N := ["_law_found", "_law_due_here", "_law_k"]) (sc := defScope sSame) (by decide +kernel))
              (fun _ _ _ _ _ => pg_name (i := 2) scSame.nd rfl (.inl rfl))
              (fun _ _ _ _ _ => pts_one (pt_not (pt_val (pe_call G hr (by rfl) g F.kp b .nil pass0 (pa_cons (pe_ix ix_seq (pv 0) (pv 2) (fun _ _ => rfl)) (pa_cons (pe_ix ix_seq (pv 1) (pv 2) (fun _ _ => rfl)) pa_nil))))))
              (fun _ _ _ _ _ => pv 2))
            (pe_lst pa_nil) (nomark _)))))) pss_nil)
        (pss_cons (ps_if (pt_cmp (pc_isN (pv 1))) (pss_one (ps_ret (pe_cmp (pc_isN (pv 0))))) pss_nil)
        (pss_cons (ps_if (pt_val (pe_callB call_isi (by rfl) mi (by decide +kernel) (pa_cons (pv 1) (pa_cons (pe_bltn (v := .ty "str") (by rfl) mst (by decide +kernel) rfl) pa_nil))))
          (pss_one (ps_ret (pe_and (pe_callB call_isi (by rfl) mi (by decide +kernel) (pa_cons (pv 0) (pa_cons (pe_bltn (v := .ty "str") (by rfl) mst (by decide +kernel) rfl) pa_nil))) (pe_one (pe_cmpR op_eq (pv 0) (pv 1) (nomark _)))))) pss_nil)
        (pss_one (ps_ret (pe_and (pe_callB call_isi (by rfl) mi (by decide +kernel) (pa_cons (pv 0) (pa_cons (pe_bltn (v := .ty "int") (by rfl) mint (by decide +kernel) rfl) pa_nil)))
          (pe_and (pe_cmpR op_eq (pe_callB call_isi (by rfl) mi (by decide +kernel) (pa_cons (pv 0) (pa_cons (pe_bltn (v := .ty "bool") (by rfl) mbo (by decide +kernel) rfl) pa_nil)))
            (pe_callB call_isi (by rfl) mi (by decide +kernel) (pa_cons (pv 1) (pa_cons (pe_bltn (v := .ty "bool") (by rfl) mbo (by decide +kernel) rfl) pa_nil))) (nomark _))
            (pe_one (pe_cmpR op_eq (pv 0) (pv 1) (nomark _))))))))), ?_⟩
      refine ⟨y, rfl, (show (2 : Nat) ≤ sizeLine by decide), fun tp ntp => ?_⟩
      have s1 : Same H (upd H tp (.tup [.ty "list", .ty "tuple"])) := sameNew ntp
      have cls : (∃ (T : String) (a b' : Addr) (xs ys : List V) (ds : List PyData), x = .ref a ∧ y = .ref b' ∧ SeqAs K H a xs T ∧ SeqAs K H b' ys T ∧ DpAll K H xs ds ∧ DpAll K H ys ds ∧ ds.length ≤ 1000 ∧ plainAll ds = true ∧ PyData.depthAll ds + 1 ≤ n) ∨
          (x = .non ∧ y = .non) ∨ (∃ i, x = .int i ∧ y = .int i) ∨ (∃ b, x = .bl b ∧ y = .bl b) ∨ ∃ z, x = .str z ∧ y = .str z := by
        cases d with
        | none => cases hx; cases hy; exact .inr (.inl ⟨rfl, rfl⟩)
        | int i => cases hx; cases hy; exact .inr (.inr (.inl ⟨i, rfl, rfl⟩))
        | list ds =>
          simp only [plain, Bool.and_eq_true, decide_eq_true_eq] at hpl
          simp only [PyData.depth] at hdp
          cases hx with
          | lst h1 h2 => cases hy with
            | lst h3 h4 => exact .inl ⟨"list", _, _, _, _, ds, rfl, rfl, .l h1, .l h3, h2, h4, hpl.1, hpl.2, hdp⟩
        | tuple ds =>
          simp only [plain, Bool.and_eq_true, decide_eq_true_eq] at hpl
          simp only [PyData.depth] at hdp
          cases hx with
          | tup h1 h2 => cases hy with
            | tup h3 h4 => exact .inl ⟨"tuple", _, _, _, _, ds, rfl, rfl, .t h1, .t h3, h2, h4, hpl.1, hpl.2, hdp⟩
        | bool bb => cases hx; cases hy; exact .inr (.inr (.inr (.inl ⟨bb, rfl, rfl⟩)))
        | str z => cases hx; cases hy; exact .inr (.inr (.inr (.inr ⟨z, rfl, rfl⟩)))
        | dict _ => simp [plain] at hpl
      rcases cls with ⟨T, a, b', xs, ys, ds, rfl, rfl, hX, hY, dx, dy, hds, hpa, hda⟩ | ⟨rfl, rfl⟩ | ⟨i, rfl, rfl⟩ | ⟨bb, rfl, rfl⟩ | ⟨z, rfl, rfl⟩
      · have hX1 := hX.same s1
        have hY1 := hY.same s1
        refine ⟨.ref b', tp, _, _, _, true, rfl, upd_same, .cons (.ty _) (.cons (.ty _) .nil), hY1.ty, hY1.kits, true, rfl, iteT ?_⟩
        refine ⟨.ref a, rfl, .ref a, .ty "list", _, _, _, rfl, .ty _, hX1.ty, hX1.kit "list" (.inl rfl), .ref b', rfl, .ref b', .ty "list", _, _, _, rfl, .ty _, hY1.ty, hY1.kit "list" (.inl rfl), rfl, _, rfl, iteNS rfl ?_⟩
        refine ⟨.ref a, rfl, .ref a, .ty "tuple", _, _, _, rfl, .ty _, hX1.ty, hX1.kit "tuple" (.inr rfl), .ref b', rfl, .ref b', .ty "tuple", _, _, _, rfl, .ty _, hY1.ty, hY1.kit "tuple" (.inr rfl), rfl, _, rfl, iteNS rfl ?_⟩
        have lx := DpAll.len dx
        have ly := DpAll.len dy
        refine ⟨.ref a, rfl, a, xs, rfl, hX1.or, .ref b', rfl, b', ys, rfl, hY1.or, rfl, _, rfl, iteNS (by rw [lx, ly]) ?_⟩
        refine ⟨.ref b', rfl, b', ys, rfl, hY1.or, _, rfl, by omega, by omega, fun D nD => lc_it (walk_range (lo := 0) (n := (ys.length : Int).toNat))
          (fun j H2 => Same H H2 ∧ H2 D = some (.lst [])) ⟨s1.trans (sameNew nD), upd_same⟩ (fun _ _ _ _ => trivial) ?_ ?_⟩
        · rintro j v H2 H3 hlt ⟨s2, e2⟩ ⟨rfl, rfl⟩
          have hj : j < ys.length := by omega
          have hj2 : j < xs.length := by omega
          have ex : xs[j]? = some xs[j] := List.getElem?_eq_getElem hj2
          have ey : ys[j]? = some ys[j] := List.getElem?_eq_getElem hj
          obtain ⟨d1, hd1, hx1⟩ := DpAll.at dx ex
          obtain ⟨d2, hd2, hy1⟩ := DpAll.at dy ey
          rw [hd1] at hd2
          cases hd2
          have hpd := plainAll_at hpa hd1
          have hdd := depthAll_at hd1
          obtain ⟨n', rfl⟩ : ∃ n', n = n' + 1 := ⟨n - 1, by omega⟩
          have e0 : (0 : Int) + (j : Nat) = (j : Nat) := by omega
          dsimp only
          rw [e0]
          refine ⟨rfl, .ref a, rfl, .int (j : Nat), rfl, (hX.same s2).ix ex ⟨.ref b', rfl, .int (j : Nat), rfl, (hY.same s2).ix ey ?_⟩⟩
          refine ⟨_, _, d1, rfl, same_dp s2 hpd hx1, same_dp s2 hpd hy1, hpd, by omega, fun H4 s4 => ⟨_, rfl, ?_⟩⟩
          exact ⟨s2.trans s4, s4 _ _ e2⟩
        · rintro H2 ⟨s2, e2⟩
          refine ⟨Nat.zero_le _, fun p np => ⟨.list [], .list [], .lst (SqL.of (upNew np e2)) .nil, .lst (SqL.of upd_same) .nil, by decide, by decide, ?_⟩⟩
          rw [eqv_nil]
          exact q _ (s2.trans (sameNew np))
      · have kn : PySem.W.kitAny K (.type "NoneType") [.type "list", .type "tuple"] = some false :=
          kitAny_cons (kit_ty (b := "list") (r := false) (by decide +kernel)) (fun _ => kitAny_cons (kit_ty (b := "tuple") (r := false) (by decide +kernel)) (fun _ => kitAny_nil) (fun z => by cases z)) (fun z => by cases z)
        refine ⟨.non, tp, _, _, _, false, rfl, upd_same, .cons (.ty _) (.cons (.ty _) .nil), .base .non, kn, false, rfl, iteF ?_⟩
        refine ⟨.non, rfl, _, rfl, iteT ?_⟩
        exact ⟨.non, rfl, q _ s1⟩
      · have kn : PySem.W.kitAny K (.type "int") [.type "list", .type "tuple"] = some false :=
          kitAny_cons (kit_ty (b := "list") (r := false) (by decide +kernel)) (fun _ => kitAny_cons (kit_ty (b := "tuple") (r := false) (by decide +kernel)) (fun _ => kitAny_nil) (fun z => by cases z)) (fun z => by cases z)
        refine ⟨.int i, tp, _, _, _, false, rfl, upd_same, .cons (.ty _) (.cons (.ty _) .nil), .base (.int i), kn, false, rfl, iteF ?_⟩
        refine ⟨.int i, rfl, _, rfl, iteF ?_⟩
        refine ⟨.int i, rfl, .int i, .ty "str", _, _, false, rfl, .ty _, .base (.int i), kit_ty (by decide +kernel), false, rfl, iteF ?_⟩
        refine ⟨.int i, rfl, .int i, .ty "int", _, _, true, rfl, .ty _, .base (.int i), kit_ty (by decide +kernel), true, rfl, iteT ?_⟩
        refine ⟨.int i, rfl, .int i, .ty "bool", _, _, false, rfl, .ty _, .base (.int i), kit_ty (by decide +kernel), .int i, rfl, .int i, .ty "bool", _, _, false, rfl, .ty _, .base (.int i), kit_ty (by decide +kernel), rfl, _, rfl, iteT ?_⟩
        refine ⟨.int i, rfl, .int i, rfl, rfl, ?_⟩
        have := q _ s1
        rw [decide_eq_true rfl]
        exact this
      · have kn : PySem.W.kitAny K (.type "bool") [.type "list", .type "tuple"] = some false :=
          kitAny_cons (kit_ty (b := "list") (r := false) (by decide +kernel)) (fun _ => kitAny_cons (kit_ty (b := "tuple") (r := false) (by decide +kernel)) (fun _ => kitAny_nil) (fun z => by cases z)) (fun z => by cases z)
        refine ⟨.bl bb, tp, _, _, _, false, rfl, upd_same, .cons (.ty _) (.cons (.ty _) .nil), .base (.bl bb), kn, false, rfl, iteF ?_⟩
        refine ⟨.bl bb, rfl, _, rfl, iteF ?_⟩
        refine ⟨.bl bb, rfl, .bl bb, .ty "str", _, _, false, rfl, .ty _, .base (.bl bb), kit_ty (by decide +kernel), false, rfl, iteF ?_⟩
        refine ⟨.bl bb, rfl, .bl bb, .ty "int", _, _, true, rfl, .ty _, .base (.bl bb), kit_ty (by decide +kernel), true, rfl, iteT ?_⟩
        refine ⟨.bl bb, rfl, .bl bb, .ty "bool", _, _, true, rfl, .ty _, .base (.bl bb), kit_ty (by decide +kernel), .bl bb, rfl, .bl bb, .ty "bool", _, _, true, rfl, .ty _, .base (.bl bb), kit_ty (by decide +kernel), rfl, _, rfl, iteT ?_⟩
        refine ⟨.bl bb, rfl, .bl bb, rfl, rfl, ?_⟩
        have := q _ s1
        rw [decide_eq_true rfl]
        exact this
      · have kn : PySem.W.kitAny K (.type "str") [.type "list", .type "tuple"] = some false :=
          kitAny_cons (kit_ty (b := "list") (r := false) (by decide +kernel)) (fun _ => kitAny_cons (kit_ty (b := "tuple") (r := false) (by decide +kernel)) (fun _ => kitAny_nil) (fun z => by cases z)) (fun z => by cases z)
        refine ⟨.str z, tp, _, _, _, false, rfl, upd_same, .cons (.ty _) (.cons (.ty _) .nil), .base (.str z), kn, false, rfl, iteF ?_⟩
        refine ⟨.str z, rfl, _, rfl, iteF ?_⟩
        refine ⟨.str z, rfl, .str z, .ty "str", _, _, true, rfl, .ty _, .base (.str z), kit_ty (by decide +kernel), true, rfl, iteT ?_⟩
        refine ⟨.str z, rfl, .str z, .ty "str", _, _, true, rfl, .ty _, .base (.str z), kit_ty (by decide +kernel), true, rfl, iteT ?_⟩
        refine ⟨.str z, rfl, .str z, rfl, rfl, ?_⟩
        have := q _ s1
        rw [decide_eq_true rfl]
        exact this
end
end Pv

namespace Pv
open PySem PySem.Spec PyProof.Rows L2
/-! how large data is -/
mutual
def fit (M : Nat) : PyData → Prop
  | .none => True
  | .bool _ => True
  | .int i => i.natAbs ≤ M
  | .str x => (reprText x).length ≤ 400
  | .list xs => fitAll M xs
  | .tuple xs => fitAll M xs
  | .dict kvs => (PyData.shown (.dict kvs)).length ≤ 40 ∧ PyData.showable (.dict kvs) = true
def fitAll (M : Nat) : List PyData → Prop
  | [] => True
  | x :: xs => fit M x ∧ fitAll M xs
end
mutual
def wt : PyData → Nat
  | .none => 40
  | .bool _ => 40
  | .int _ => 40
  | .str _ => 400
  | .list xs => wtAll xs + 3
  | .tuple xs => wtAll xs + 3
  | .dict _ => 40
def wtAll : List PyData → Nat
  | [] => 0
  | x :: xs => wt x + 2 + wtAll xs
end
theorem int_text {i : Int} {M : Nat} (h : i.natAbs ≤ M) (hM : M < 10 ^ 35) : (PyData.int i).showable = true ∧ (PyData.int i).shown.length ≤ 40 := by
  have h' : i.natAbs < 10 ^ 35 := by omega
  refine ⟨?_, ?_⟩
  · simp only [PyData.showable, decide_eq_true_eq]
    have : i.natAbs.log2 < 200 := by
      by_cases h0 : i.natAbs = 0
      · rw [h0]; decide
      · exact (Nat.log2_lt h0).mpr (Nat.lt_trans h' (by decide))
    omega
  · have e := int_text_length_le10 (k := 35) (by decide) h'
    show (Str.ofString (toString i)).length ≤ 40
    rw [PySem.ofString_length]
    omega
mutual
theorem fit_ok {M : Nat} (hM : M < 10 ^ 35) : ∀ {d : PyData}, fit M d → d.showable = true ∧ d.shown.length ≤ wt d
  | .none, _ => by simp only [PyData.showable, PyData.shown, wt]; decide
  | .bool b, _ => by cases b <;> (simp only [PyData.showable, PyData.shown, wt]; decide)
  | .int i, h => by
    have := int_text (i := i) (M := M) (by simpa only [fit] using h) hM
    simp only [wt]; exact this
  | .str x, h => by simp only [fit] at h; simp only [PyData.showable, PyData.shown, wt]; exact ⟨trivial, h⟩
  | .list xs, h => by
    obtain ⟨h1, h2⟩ := fitAll_ok hM (xs := xs) (by simpa only [fit] using h)
    simp only [PyData.showable, PyData.shown, wt]
    refine ⟨h1, ?_⟩
    have e := listText_len_le (PyData.shownAll xs)
    omega
  | .tuple xs, h => by
    obtain ⟨h1, h2⟩ := fitAll_ok hM (xs := xs) (by simpa only [fit] using h)
    simp only [PyData.showable, PyData.shown, wt]
    refine ⟨h1, ?_⟩
    have e := tupleText_len_le (PyData.shownAll xs)
    omega
  | .dict kvs, h => by simp only [fit] at h; simp only [wt]; exact ⟨h.2, h.1⟩
theorem fitAll_ok {M : Nat} (hM : M < 10 ^ 35) : ∀ {xs : List PyData}, fitAll M xs → PyData.showableAll xs = true ∧ ((PyData.shownAll xs).map (·.length)).sum + 2 * (PyData.shownAll xs).length ≤ wtAll xs
  | [], _ => by simp [PyData.showableAll, PyData.shownAll, wtAll]
  | x :: xs, h => by
    have h' : fit M x ∧ fitAll M xs := by simpa only [fitAll] using h
    obtain ⟨a1, a2⟩ := fit_ok hM h'.1
    obtain ⟨b1, b2⟩ := fitAll_ok hM h'.2
    refine ⟨by simp [PyData.showableAll, a1, b1], ?_⟩
    simp only [PyData.shownAll, List.map_cons, List.sum_cons, List.length_cons, wtAll]
    omega
end
mutual
theorem fit_mono {M M' : Nat} (h : M ≤ M') : ∀ {d : PyData}, fit M d → fit M' d
  | .none, _ => by simp [fit]
  | .bool _, _ => by simp [fit]
  | .int i, q => by simp only [fit] at *; omega
  | .str x, q => by simpa only [fit] using q
  | .list xs, q => by simp only [fit] at *; exact fitAll_mono h q
  | .tuple xs, q => by simp only [fit] at *; exact fitAll_mono h q
  | .dict _, q => by simpa only [fit] using q
theorem fitAll_mono {M M' : Nat} (h : M ≤ M') : ∀ {xs : List PyData}, fitAll M xs → fitAll M' xs
  | [], _ => by simp [fitAll]
  | x :: xs, q => by
    have q' : fit M x ∧ fitAll M xs := by simpa only [fitAll] using q
    simp only [fitAll]
    exact ⟨fit_mono h q'.1, fitAll_mono h q'.2⟩
end
theorem fitAll_iff {M : Nat} : ∀ {xs : List PyData}, fitAll M xs ↔ ∀ x ∈ xs, fit M x
  | [] => by simp [fitAll]
  | x :: xs => by simp [fitAll, fitAll_iff (xs := xs)]
theorem wtAll_app : ∀ (xs ys : List PyData), wtAll (xs ++ ys) = wtAll xs + wtAll ys
  | [], ys => by simp [wtAll]
  | x :: xs, ys => by simp only [List.cons_append, wtAll, wtAll_app xs ys]; omega
theorem wtAll_rev : ∀ xs : List PyData, wtAll xs.reverse = wtAll xs
  | [] => rfl
  | x :: xs => by rw [List.reverse_cons, wtAll_app, wtAll_rev xs]; simp only [wtAll]; omega
theorem wtAll_split (xs : List PyData) (n : Nat) : wtAll xs = wtAll (xs.take n) + wtAll (xs.drop n) := by rw [← wtAll_app, List.take_append_drop]
theorem wtAll_len : ∀ xs : List PyData, 2 * xs.length ≤ wtAll xs
  | [] => by simp [wtAll]
  | x :: xs => by have := wtAll_len xs; simp only [wtAll, List.length_cons]; omega
theorem depthAll_le {k : Nat} : ∀ {xs : List PyData}, PyData.depthAll xs ≤ k ↔ ∀ x ∈ xs, x.depth ≤ k
  | [] => by simp [PyData.depthAll]
  | x :: xs => by
    have := depthAll_le (k := k) (xs := xs)
    simp only [PyData.depthAll, List.mem_cons, forall_eq_or_imp, ← this]
    omega
structure Fit (M k W : Nat) (d : PyData) : Prop where
  ok : fit M d
  dp : d.depth ≤ k
  wt : wt d ≤ W
theorem Fit.mono {M M' k k' W W' : Nat} {d : PyData} (h : Fit M k W d) (h1 : M ≤ M') (h2 : k ≤ k') (h3 : W ≤ W') : Fit M' k' W' d := ⟨fit_mono h1 h.ok, Nat.le_trans h.dp h2, Nat.le_trans h.wt h3⟩
theorem Fit.at {M k W : Nat} {ds : List PyData} {d : PyData} (h : Fit M k W (.tuple ds)) (hm : d ∈ ds) : Fit M (k - 1) W d ∧ d.depth + 1 ≤ (PyData.tuple ds).depth ∧ 1 ≤ k := by
  have h1 : fitAll M ds := by have := h.ok; simpa only [fit] using this
  have h2 := h.dp
  simp only [PyData.depth] at h2
  have h3 : ∀ x ∈ ds, x.depth ≤ PyData.depthAll ds := depthAll_le.mp (Nat.le_refl _)
  have h4 := h3 d hm
  refine ⟨⟨fitAll_iff.mp h1 d hm, by omega, ?_⟩, by simp only [PyData.depth]; omega, by omega⟩
  obtain ⟨a, b, rfl⟩ := List.append_of_mem hm
  have h5 := h.wt
  simp only [Pv.wt, wtAll_app, wtAll] at h5
  omega
/-- a tuple made of parts -/
theorem Fit.tup {M k W : Nat} {ds : List PyData} (h1 : ∀ d ∈ ds, fit M d ∧ d.depth + 1 ≤ k) (h0 : 1 ≤ k) (h2 : wtAll ds + 3 ≤ W) : Fit M k W (.tuple ds) := by
  refine ⟨by simp only [fit]; exact fitAll_iff.mpr fun d hd => (h1 d hd).1, ?_, by simpa only [Pv.wt] using h2⟩
  simp only [PyData.depth]
  have : PyData.depthAll ds ≤ k - 1 := depthAll_le.mpr fun d hd => by have := (h1 d hd).2; omega
  omega
theorem Fit.lst {M k W : Nat} {ds : List PyData} (h1 : ∀ d ∈ ds, fit M d ∧ d.depth + 1 ≤ k) (h0 : 1 ≤ k) (h2 : wtAll ds + 3 ≤ W) : Fit M k W (.list ds) := by
  refine ⟨by simp only [fit]; exact fitAll_iff.mpr fun d hd => (h1 d hd).1, ?_, by simpa only [Pv.wt] using h2⟩
  simp only [PyData.depth]
  have : PyData.depthAll ds ≤ k - 1 := depthAll_le.mpr fun d hd => by have := (h1 d hd).2; omega
  omega
theorem Fit.parts {M k W : Nat} {ds : List PyData} (h : Fit M k W (.tuple ds)) : (∀ d ∈ ds, fit M d ∧ d.depth + 1 ≤ k) ∧ 1 ≤ k ∧ wtAll ds + 3 ≤ W := by
  have h0 : 1 ≤ k := by have := h.dp; simp only [PyData.depth] at this; omega
  refine ⟨fun d hd => ⟨(h.at hd).1.ok, ?_⟩, h0, by have := h.wt; simpa only [Pv.wt] using this⟩
  have := (h.at hd).1.dp
  omega
theorem Fit.int {M k W : Nat} {i : Int} (h : i.natAbs ≤ M) (hW : 40 ≤ W) : Fit M k W (.int i) := ⟨by simpa only [fit] using h, by simp [PyData.depth], by simpa only [Pv.wt] using hW⟩
/-- what is shown together -/
theorem fit_pair {M : Nat} (hM : M < 10 ^ 35) {k W : Nat} {a b : PyData} (ha : Fit M k W a) (hb : Fit M k W b) (hk : k ≤ 50) (hW : W ≤ 1000000) :
    (PyData.list [a, b]).showable = true ∧ (PyData.list [a, b]).depth ≤ 60 ∧ (PyData.list [a, b]).shown.length ≤ sizeLine := by
  have h : Fit M (k + 1) (2 * W + 10) (.list [a, b]) := by
    refine Fit.lst ?_ (by omega) ?_
    · intro d hd
      rcases List.mem_cons.mp hd with rfl | hd
      · exact ⟨ha.ok, by have := ha.dp; omega⟩
      · rcases List.mem_cons.mp hd with rfl | hd
        · exact ⟨hb.ok, by have := hb.dp; omega⟩
        · cases hd
    · have h1 := ha.wt
      have h2 := hb.wt
      simp only [wtAll]; omega
  obtain ⟨s1, s2⟩ := fit_ok hM h.ok
  refine ⟨s1, Nat.le_trans h.dp (by omega), Nat.le_trans s2 (Nat.le_trans h.wt ?_)⟩
  rw [sizeLine_eq]; omega
/-! the data of instances and assignments -/
theorem fit_dI {M : Nat} {ns : List Int} (h : ∀ i ∈ ns, i.natAbs ≤ M) : Fit M 1 (ns.length * 42 + 3) (dI ns) := by
  have hw : wtAll (ns.map PyData.int) = ns.length * 42 := by
    clear h
    induction ns with
    | nil => rfl
    | cons a ns ih => simp only [List.map_cons, wtAll, wt, ih, List.length_cons]; omega
  refine Fit.tup ?_ (by decide) (by rw [hw]; exact Nat.le_refl _)
  intro d hd
  obtain ⟨i, hi, rfl⟩ := List.mem_map.mp hd
  exact ⟨by simpa only [fit] using h i hi, by simp [PyData.depth]⟩
theorem wtAll_le {W : Nat} : ∀ {ds : List PyData}, (∀ d ∈ ds, wt d ≤ W) → wtAll ds ≤ ds.length * (W + 2)
  | [], _ => by simp [wtAll]
  | d :: ds, h => by
    have h1 := h d (by simp)
    have h2 := wtAll_le (W := W) (ds := ds) (fun x hx => h x (by simp [hx]))
    simp only [wtAll, List.length_cons, Nat.succ_mul]; omega
theorem fit_dAsg {M : Nat} {rows : List (List Int)} (h : ∀ row ∈ rows, row.length ≤ 10 ∧ ∀ i ∈ row, i.natAbs ≤ M) (hr : rows.length ≤ 20) : Fit M 2 10000 (dAsg rows) := by
  unfold dAsg
  refine Fit.tup ?_ (by decide) ?_
  · intro d hd
    obtain ⟨row, hrow, rfl⟩ := List.mem_map.mp hd
    have := fit_dI (M := M) (h row hrow).2
    exact ⟨this.ok, by have := this.dp; omega⟩
  · have := wtAll_le (W := 430) (ds := rows.map dI) (by
      intro d hd
      obtain ⟨row, hrow, rfl⟩ := List.mem_map.mp hd
      have := (fit_dI (M := M) (h row hrow).2).wt
      have := (h row hrow).1
      omega)
    rw [List.length_map] at this
    omega
theorem fit_dInst {M : Nat} {cs : List Int} {gs : List Gp} (hc : cs.length ≤ 10 ∧ ∀ i ∈ cs, i.natAbs ≤ M) (hg : gs.length ≤ 20) (h : ∀ g ∈ gs, g.1.length ≤ 10 ∧ (∀ i ∈ g.1, i.natAbs ≤ M) ∧ g.2.natAbs ≤ M) : Fit M 5 20000 (dInst cs gs) := by
  have f1 := fit_dI hc.2
  have f2 : ∀ g ∈ gs, Fit M 2 600 (dGrp g) := by
    intro g hgm
    have f3 := fit_dI (M := M) (h g hgm).2.1
    have hl := (h g hgm).1
    unfold dGrp
    refine Fit.tup ?_ (by decide) ?_
    · intro d hd
      rcases List.mem_cons.mp hd with rfl | hd
      · exact ⟨f3.ok, by have := f3.dp; omega⟩
      · rcases List.mem_cons.mp hd with rfl | hd
        · exact ⟨by simpa only [fit] using (h g hgm).2.2, by simp [PyData.depth]⟩
        · cases hd
    · have := f3.wt
      simp only [wtAll, Pv.wt]; omega
  have f4 : Fit M 3 13000 (.tuple (gs.map dGrp)) := by
    refine Fit.tup ?_ (by decide) ?_
    · intro d hd
      obtain ⟨g, hgm, rfl⟩ := List.mem_map.mp hd
      exact ⟨(f2 g hgm).ok, by have := (f2 g hgm).dp; omega⟩
    · have := wtAll_le (W := 600) (ds := gs.map dGrp) (by
        intro d hd
        obtain ⟨g, hgm, rfl⟩ := List.mem_map.mp hd
        exact (f2 g hgm).wt)
      rw [List.length_map] at this
      omega
  unfold dInst
  refine Fit.tup ?_ (by decide) ?_
  · intro d hd
    rcases List.mem_cons.mp hd with rfl | hd
    · exact ⟨f1.ok, by have := f1.dp; omega⟩
    · rcases List.mem_cons.mp hd with rfl | hd
      · exact ⟨f4.ok, by have := f4.dp; omega⟩
      · cases hd
  · have h1 := f1.wt
    have h2 := f4.wt
    have := hc.1
    simp only [wtAll]; omega
end Pv

namespace Pv
open PySem PySem.Spec PyProof.Rows L2
abbrev sOdd : Stmt := topS 29
theorem scOdd : FnScope ["_law_deck_here", "_law_some"] ["_law_deck_here"] (defScope sOdd) := ⟨rfl, rfl, rfl, by decide +kernel, rfl, by decide +kernel, by decide +kernel⟩
def oddL : List PyData := [.none, .bool true, .bool false, .int (-1), .int 0, .int 1, .int (10 ^ (12 : Int).toNat + 1), .int (10 ^ (29 : Int).toNat), .str "", .str "0", .tuple [], .list [], .dict [], .tuple [.int 0], .list [.int 0], .tuple [.int 0, .int 0], .tuple [.tuple []], .str "a"]
theorem odd_fit : ∀ d ∈ oddL, Fit (10 ^ 29) 2 500 d ∧ nar 2 d := by
  intro d hd
  simp only [oddL, List.mem_cons, List.not_mem_nil, or_false] at hd
  rcases hd with rfl | rfl | rfl | rfl | rfl | rfl | rfl | rfl | rfl | rfl | rfl | rfl | rfl | rfl | rfl | rfl | rfl | rfl
  · exact ⟨⟨by simp [fit], by simp [PyData.depth], by simp [wt]⟩, by simp [nar]⟩
  · exact ⟨⟨by simp [fit], by simp [PyData.depth], by simp [wt]⟩, by simp [nar]⟩
  · exact ⟨⟨by simp [fit], by simp [PyData.depth], by simp [wt]⟩, by simp [nar]⟩
  · exact ⟨⟨by simp [fit], by simp [PyData.depth], by simp [wt]⟩, by simp [nar]⟩
  · exact ⟨⟨by simp [fit], by simp [PyData.depth], by simp [wt]⟩, by simp [nar]⟩
  · exact ⟨⟨by simp [fit], by simp [PyData.depth], by simp [wt]⟩, by simp [nar]⟩
  · exact ⟨⟨by simp only [fit]; decide, by simp [PyData.depth], by simp [wt]⟩, by simp [nar]⟩
  · exact ⟨⟨by simp only [fit]; decide, by simp [PyData.depth], by simp [wt]⟩, by simp [nar]⟩
  · exact ⟨⟨by simp only [fit]; decide +kernel, by simp [PyData.depth], by simp [wt]⟩, by simp [nar]⟩
  · exact ⟨⟨by simp only [fit]; decide +kernel, by simp [PyData.depth], by simp [wt]⟩, by simp [nar]⟩
  · exact ⟨⟨by simp [fit, fitAll], by simp [PyData.depth, PyData.depthAll], by simp [wt, wtAll]⟩, by simp [nar, narAll]⟩
  · exact ⟨⟨by simp [fit, fitAll], by simp [PyData.depth, PyData.depthAll], by simp [wt, wtAll]⟩, by simp [nar, narAll]⟩
  · exact ⟨⟨by simp only [fit]; exact ⟨by decide +kernel, by simp [PyData.showable, PyData.showableKv]⟩, by simp [PyData.depth, PyData.depthKv], by simp [wt]⟩, by simp [nar]⟩
  · exact ⟨⟨by simp [fit, fitAll], by simp [PyData.depth, PyData.depthAll], by simp [wt, wtAll]⟩, by simp [nar, narAll]⟩
  · exact ⟨⟨by simp [fit, fitAll], by simp [PyData.depth, PyData.depthAll], by simp [wt, wtAll]⟩, by simp [nar, narAll]⟩
  · exact ⟨⟨by simp [fit, fitAll], by simp [PyData.depth, PyData.depthAll], by simp [wt, wtAll]⟩, by simp [nar, narAll]⟩
  · exact ⟨⟨by simp [fit, fitAll], by simp [PyData.depth, PyData.depthAll], by simp [wt, wtAll]⟩, by simp [nar, narAll]⟩
  · exact ⟨⟨by simp only [fit]; decide +kernel, by simp [PyData.depth], by simp [wt]⟩, by simp [nar]⟩
theorem odd_short : ∀ d ∈ oddL, ∀ a : List Nat, d = .str ⟨a.toArray⟩ → a.length ≤ 1 := by
  intro d hd a e
  have key : ∀ z : Str, .str z ∈ oddL → z.cps.toList.length ≤ 1 := by
    intro z hz
    simp only [oddL, List.mem_cons, List.not_mem_nil, or_false, reduceCtorEq, false_or, PyData.str.injEq] at hz
    rcases hz with rfl | rfl | rfl <;> decide
  rw [e] at hd
  exact key _ hd
section
variable {P : Program} {w : World} {K : PySem.W.Frag} {mg : Str → Option Value} {base : Heap}
def spOdd (K : PySem.W.Frag) : Sp := fun vs H Q _ => ∃ (st c r : Addr) (t : Nat), vs = [.ref st] ∧ DS H st c r t ∧ t < 1000000 ∧
  ∀ (H' : Hp) (v : V) (d : PyData), DS H' st c r (t + 1) → Ext st r H H' → Dq K st r H' v d → Fit (10 ^ 29) 2 500 d → nar 2 d → (∀ a : List Nat, d = .str ⟨a.toArray⟩ → a.length ≤ 1) → Q v H'
set_option maxHeartbeats 2000000 in
theorem ok_odd {f fD : Addr} {fd fdD : FuncData} {k : Nat} (F : Fun K "_law_odd" "_law_odd" sOdd f fd)
    (FD : Fun K "_law_next" "_law_next" sDraw fD fdD) (bD : Binds K fdD ["_law_deck_here", "_law_many"] []) (gD : mg "_law_next" = some (.ref fD)) (GD : FnOk P w K mg base CX0 1 fD fdD ["_law_deck_here", "_law_many"] spDraw) :
    FnOk P w K mg base CX0 (1 + k + 1) f fd ["_law_deck_here"] (spOdd K) := by
  refine F.ok scOdd (fun vs H Q E h => ?_) (fun cdv A outer s H vs Q E hr h => ?_)
  · obtain ⟨st, c, r, t, rfl, _⟩ := h; rfl
  · obtain ⟨st, c, r, t, rfl, ds, ht, q⟩ := h
    refine ⟨_, pss_cons (ps_set (i := 1) scOdd.nd rfl (.inl rfl) (pe_lst (pa_cons pe_non (pa_cons pe_bl (pa_cons pe_bl (pa_cons (pe_un un_neg pe_int) (pa_cons pe_int (pa_cons pe_int (pa_cons (pe_op op_add (pe_op op_pow pe_int pe_int) pe_int) (pa_cons (pe_op op_pow pe_int pe_int)
        (pa_cons pe_str (pa_cons pe_str (pa_cons (pe_tup pa_nil) (pa_cons (pe_lstS pa_nil) (pa_cons pe_dnewK
        (pa_cons (pe_tup (pa_cons pe_int pa_nil)) (pa_cons (pe_lstS (pa_cons pe_int pa_nil)) (pa_cons (pe_tup (pa_cons pe_int (pa_cons pe_int pa_nil))) (pa_cons (pe_tup (pa_cons (pe_tup pa_nil) pa_nil)) (pa_cons pe_str pa_nil))))))))))))))))))))
      (pss_one (ps_ret (pe_ix ix_list (pv 1) (pe_call GD (hr.mono (by omega)) (by rfl) gD FD.kp bD .nil pass0 (pa_cons (pv 0) (pa_cons pe_int pa_nil))) (fun _ _ => rfl)))), ?_⟩
    refine ⟨1, rfl, _, _, rfl, rfl, ⟨by decide, by decide, by decide⟩, _, _, rfl, rfl, _, _, rfl, rfl, ⟨by decide, by decide, by decide⟩, Nat.zero_le _, fun p1 n1 => ⟨Nat.zero_le _, fun p2 n2 m2 p3 n3 => ?_⟩⟩
    have h1 : Dq K st r (upd H p1 (.tup [])) (.ref p1) (.tuple []) := .tup (SqT.of upd_same) .nil
    have s1 : Same H (upd H p1 (.tup [])) := sameNew n1
    have d1 := ds.same s1
    obtain ⟨o1, _, o2⟩ := d1.off n2
    have h2 : Dq K st r (upd (upd H p1 (.tup [])) p2 (.lst [])) (.ref p2) (.list []) := .lst upd_same o1 o2 m2 .nil
    generalize e2 : upd (upd H p1 (.tup [])) p2 (.lst []) = H2 at *
    have s2 : Same (upd H p1 (.tup [])) H2 := by rw [← e2]; exact sameNew n2
    have h3 : Dq K st r (upd H2 p3 (.dK [])) (.ref p3) (.dict []) := .dct (kvs := []) upd_same
    have s4 : Same H2 (upd H2 p3 (.dK [])) := sameNew n3
    generalize e4 : upd H2 p3 (.dK []) = H4 at *
    refine ⟨by decide, fun p5 n5 => ⟨by decide, fun p6 n6 m6 => ⟨by decide, fun p9 n9 => ⟨Nat.zero_le _, fun p7 n7 => ⟨(show (1 : Nat) ≤ sizeLine by decide), fun p8 n8 => ⟨(show (18 : Nat) ≤ sizeLine by decide), fun L nL => ?_⟩⟩⟩⟩⟩⟩
    have h5 : Dq K st r (upd H4 p5 (.tup [.int 0])) (.ref p5) (.tuple [.int 0]) := .tup (SqT.of upd_same) (.cons (.int 0) .nil)
    have s5 : Same H4 (upd H4 p5 (.tup [.int 0])) := sameNew n5
    have s05 := ((s1.trans s2).trans s4).trans s5
    obtain ⟨o3, _, o4⟩ := (ds.same s05).off n6
    generalize e5 : upd H4 p5 (.tup [.int 0]) = H5 at *
    have h6 : Dq K st r (upd H5 p6 (.lst [.int 0])) (.ref p6) (.list [.int 0]) := .lst upd_same o3 o4 m6 (.cons (.int 0) .nil)
    have s6 : Same H5 (upd H5 p6 (.lst [.int 0])) := sameNew n6
    generalize e6 : upd H5 p6 (.lst [.int 0]) = H6 at *
    have s7 : Same H6 (upd H6 p9 (.tup [.int 0, .int 0])) := sameNew n9
    have h9 : Dq K st r (upd H6 p9 (.tup [.int 0, .int 0])) (.ref p9) (.tuple [.int 0, .int 0]) := .tup (SqT.of upd_same) (.cons (.int 0) (.cons (.int 0) .nil))
    generalize e7 : upd H6 p9 (.tup [.int 0, .int 0]) = H7 at *
    have h7 : Dq K st r (upd H7 p7 (.tup [])) (.ref p7) (.tuple []) := .tup (SqT.of upd_same) .nil
    have s8 : Same H7 (upd H7 p7 (.tup [])) := sameNew n7
    generalize e8 : upd H7 p7 (.tup []) = H8 at *
    have s9 : Same H8 (upd H8 p8 (.tup [.ref p7])) := sameNew n8
    have h8 : Dq K st r (upd H8 p8 (.tup [.ref p7])) (.ref p8) (.tuple [.tuple []]) := .tup (SqT.of upd_same) (.cons (h7.lasts (.of s9)) .nil)
    generalize e9 : upd H8 p8 (.tup [.ref p7]) = H9 at *
    have s79 := s8.trans s9
    have s69 := s7.trans s79
    have s59 := s6.trans s69
    have s49 := s5.trans s59
    have s29 := s4.trans s49
    have s19 := s2.trans s29
    have s09 := s1.trans s19
    have hall : DqAll K st r H9 [.non, .bl true, .bl false, .int (-1), .int 0, .int 1, .int (10 ^ (12 : Int).toNat + 1), .int (10 ^ (29 : Int).toNat), .str "", .str "0", .ref p1, .ref p2, .ref p3, .ref p5, .ref p6, .ref p9, .ref p8, .str "a"] oddL :=
      .cons .non (.cons (.bl _) (.cons (.bl _) (.cons (.int _) (.cons (.int _) (.cons (.int _) (.cons (.int _) (.cons (.int _) (.cons (.str _) (.cons (.str _) (.cons (h1.lasts (.of s19)) (.cons (h2.lasts (.of s29)) (.cons (h3.lasts (.of s49))
        (.cons (h5.lasts (.of s59)) (.cons (h6.lasts (.of s69)) (.cons (h9.lasts (.of s79)) (.cons h8 (.cons (.str _) .nil)))))))))))))))))
    have sL := sameNew (o := .lst [.non, .bl true, .bl false, .int (-1), .int 0, .int 1, .int (10 ^ (12 : Int).toNat + 1), .int (10 ^ (29 : Int).toNat), .str "", .str "0", .ref p1, .ref p2, .ref p3, .ref p5, .ref p6, .ref p9, .ref p8, .str "a"]) nL
    have dL := ds.same (s09.trans sL)
    obtain ⟨oL1, _, oL2⟩ := (ds.same s09).off nL
    refine ⟨.ref L, rfl, .ref st, rfl, st, c, r, t, 18, rfl, dL, ht, by decide, by decide, fun H' d h0 h18 D' X' => ?_⟩
    obtain ⟨n, rfl⟩ : ∃ n : Nat, d = n := ⟨d.toNat, by omega⟩
    have hL := X' _ _ upd_same oL1 oL2
    have hallL := (hall.lasts (.of sL)).lasts (Lasts.ext dL X')
    generalize ev : ([.non, .bl true, .bl false, .int (-1), .int 0, .int 1, .int (10 ^ (12 : Int).toNat + 1), .int (10 ^ (29 : Int).toNat), .str "", .str "0", .ref p1, .ref p2, .ref p3, .ref p5, .ref p6, .ref p9, .ref p8, .str "a"] : List V) = vals at *
    have hvl : vals.length = 18 := by rw [← ev]; rfl
    have hn : n < vals.length := by omega
    obtain ⟨dd, hdd, hdq⟩ := DqAll.at hallL (List.getElem?_eq_getElem hn)
    have hof := odd_fit dd (List.mem_of_getElem? hdd)
    refine ⟨L, _, _, _, rfl, rfl, SqL.of ?_, atI_nat (List.getElem?_eq_getElem hn), q _ _ _ D' ((Ext.of (s09.trans sL)).trans X') hdq hof.1 hof.2 (odd_short dd (List.mem_of_getElem? hdd))⟩
    exact hL
end
end Pv

namespace Pv
open PySem PySem.Spec PyProof.Rows L2
/-! a comprehension whose elements only make new objects -/
def LcP {α : Type} (H1 : Hp) (D : Addr) (zs : List α) (F : α → Option V) (i : Nat) (H : Hp) : Prop := Same H1 H ∧ H D = some (.lst ((zs.take i).filterMap F))
section
variable {α : Type} {H1 H H' : Hp} {D : Addr} {zs : List α} {F : α → Option V} {i : Nat} {x : α} {y : V}
theorem LcP.start (nD : H1 D = none) : LcP H1 D zs F 0 (upd H1 D (.lst [])) := ⟨sameNew nD, by rw [upd_same]; rfl⟩
theorem LcP.yes (h : LcP H1 D zs F i H) (nD : H1 D = none) (s : Same H H') (hx : zs[i]? = some x) (hF : F x = some y) (hi : i ≤ 1000000) : ∃ acc, H' D = some (.lst acc) ∧ acc.length < sizeLine ∧ LcP H1 D zs F (i + 1) (upd H' D (.lst (acc ++ [y]))) := by
  refine ⟨_, s _ _ h.2, ?_, samePut (h.1.trans s) nD, ?_⟩
  · have h1 := List.length_filterMap_le F (zs.take i)
    have h2 := List.length_take_le i zs
    exact small (by omega)
  · rw [upd_same, take_snoc hx, List.filterMap_append]
    simp [hF]
theorem LcP.no (h : LcP H1 D zs F i H) (s : Same H H') (hx : zs[i]? = some x) (hF : F x = none) : LcP H1 D zs F (i + 1) H' := by
  refine ⟨h.1.trans s, ?_⟩
  rw [s _ _ h.2, take_snoc hx, List.filterMap_append]
  simp [hF]
theorem LcP.done (h : LcP H1 D zs F i H) (hi : zs.length ≤ i) : H D = some (.lst (zs.filterMap F)) := by have := h.2; rwa [List.take_of_length_le hi] at this
end
theorem fm_map {α : Type} (f : α → V) (zs : List α) : zs.filterMap (fun x => some (f x)) = zs.map f := by
  induction zs with
  | nil => rfl
  | cons z zs ih => simp
theorem fm_filter {α : Type} (p : α → Bool) (f : α → V) (zs : List α) : zs.filterMap (fun x => if p x = true then some (f x) else none) = (zs.filter p).map f := by
  induction zs with
  | nil => rfl
  | cons z zs ih => by_cases h : p z = true <;> simp [h, ih]
def Rl {β : Type} (R : V → β → Prop) (vs : List V) (rs : List β) : Prop := vs.length = rs.length ∧ ∀ (j : Nat) (v : V) (r : β), vs[j]? = some v → rs[j]? = some r → R v r
section
variable {β : Type} {R R' : V → β → Prop} {vs : List V} {rs : List β}
theorem Rl.nil : Rl R [] [] := ⟨rfl, fun j v r h => by simp at h⟩
theorem Rl.mono (h : Rl R vs rs) (f : ∀ v r, R v r → R' v r) : Rl R' vs rs := ⟨h.1, fun j v r h1 h2 => f _ _ (h.2 j v r h1 h2)⟩
theorem Rl.snoc {v : V} {r : β} (h : Rl R vs rs) (hv : R v r) : Rl R (vs ++ [v]) (rs ++ [r]) := by
  refine ⟨by simp [h.1], fun j v' r' h1 h2 => ?_⟩
  by_cases hj : j < vs.length
  · rw [List.getElem?_append_left hj] at h1
    rw [List.getElem?_append_left (by rw [← h.1]; exact hj)] at h2
    exact h.2 j v' r' h1 h2
  · rw [List.getElem?_append_right (by omega)] at h1
    rw [List.getElem?_append_right (by rw [← h.1]; omega)] at h2
    have e : j - vs.length = 0 := by have := (List.getElem?_eq_some_iff.mp h1).1; simp at this; omega
    rw [e] at h1
    rw [← h.1, e] at h2
    simp at h1 h2
    rw [← h1, ← h2]; exact hv
theorem Rl.at {j : Nat} {v : V} (h : Rl R vs rs) (hv : vs[j]? = some v) : ∃ r, rs[j]? = some r ∧ R v r := by
  have hj : j < rs.length := by rw [← h.1]; exact (List.getElem?_eq_some_iff.mp hv).1
  exact ⟨rs[j], List.getElem?_eq_getElem hj, h.2 j v _ hv (List.getElem?_eq_getElem hj)⟩
end
theorem sqS {K : PySem.W.Frag} {H H' : Hp} {a : Addr} {xs : List V} (s : Same H H') (h : SqT K H a xs) : SqT K H' a xs := (TupK.of s).sq h
theorem atS {xs : List Int} {j : Nat} (h : j < xs.length) : (xs.map V.int)[j]? = some (.int xs[j]) := by rw [List.getElem?_map, List.getElem?_eq_getElem h]; rfl
section
variable {X : Cx}
def rEqNilT (K : PySem.W.Frag) : R2 := fun x y H Q => ∃ (a b : Addr) (xs : List V), x = .ref a ∧ y = .ref b ∧ SqT K H a xs ∧ SqT K H b [] ∧ Q (.bl xs.isEmpty) H
theorem op_eqNilT (hu : X.A.units < cLine) : OpR X (compareOp .Eq) (rEqNilT X.K) := by
  intro pins s σ H x y v u Q I rx ry h
  obtain ⟨a, b, xs, rfl, rfl, ha, hb, q⟩ := h
  cases rx
  cases ry
  obtain ⟨its, r1, p1, z1⟩ := I.tuple ha
  obtain ⟨its2, r2, p2, z2⟩ := I.tuple hb
  cases r2
  have hl := r1.length
  have key := SeqAt.RcAt.tuples (A := X.A) (e := fun _ => true) (show s.heap.IsTuple a its.toArray from p1) (show s.heap.IsTuple b ([] : List Value).toArray from p2) hu (fun j _ h2 => absurd h2 (Nat.not_lt_zero _)) X.prog X.w
  have e : ((List.range (min its.toArray.size ([] : List Value).toArray.size)).all (fun _ => true) && its.toArray.size == ([] : List Value).toArray.size) = xs.isEmpty := by
    rw [List.size_toArray, ← hl]
    cases xs <;> simp
  rw [e] at key
  exact key _ _ ⟨.bl _, H, I, rfl, q⟩
end
end Pv

namespace Pv
open PySem PySem.Spec PyProof.Rows L2 SX
/-! texts: the rules under short names, and the text of a whole number -/
def rJnS (K : PySem.W.Frag) : V → List V → Hp → VK → Prop := fun x xs H Q => ∃ a p, ∃ ys : List Str, x = .str a ∧ xs = [.ref p] ∧ (SqL K H p (ys.map V.str) ∨ SqT K H p (ys.map V.str)) ∧ (ys.map (·.length)).sum + ys.length * a.length ≤ 16777216 ∧ Q (.str (Txt.join a ys)) H
def rSpS : V → List V → Hp → VK → Prop := fun x xs H Q => ∃ a b, x = .str a ∧ xs = [.str b] ∧ (b.length == 0) = false ∧ a.length + 2 ≤ sizeLine ∧ rNewStrs (Txt.split a b) H Q
def rTxt0 (g : Str → Bool) : V → List V → Hp → VK → Prop := fun x xs H Q => ∃ a, x = .str a ∧ xs = [] ∧ True ∧ Q (.bl (g a)) H
def rTxt1 (g : Str → Str → Bool) : V → List V → Hp → VK → Prop := fun x xs H Q => ∃ a b, x = .str a ∧ xs = [.str b] ∧ Q (.bl (g a b)) H
def rStrI : RC := fun xs H Q => ∃ i, xs = [.int i] ∧ i.natAbs.log2 < 1920 ∧ Q (.str (toString i)) H
def rIntS : RC := fun xs H Q => ∃ a n, xs = [.str a] ∧ PySem.intText? a = some n ∧ a.length ≤ 640 ∧ Q (.int n) H
def rLenS : RC := fun xs H Q => ∃ z, xs = [.str z] ∧ z.length ≤ sizeLine ∧ Q (.int z.length) H
section
variable {X : Cx}
theorem mt_joinQ : MtR X "str.join" (rJnS X.K) := mt_join
theorem mt_splitQ : MtR X "str.split" rSpS := mt_split
theorem mt_isasciiQ : MtR X "str.isascii" (rTxt0 Txt.isascii) := mt_isascii
theorem mt_isdigitQ : MtR X "str.isdigit" (rTxt0 Txt.isdigit) := mt_isdigit
theorem mt_startswithQ : MtR X "str.startswith" (rTxt1 Txt.startswith) := mt_startswith
theorem mt_endswithQ : MtR X "str.endswith" (rTxt1 Txt.endswith) := mt_endswith
theorem call_strQ : CallR X (.type "str") rStrI := call_str_int
theorem call_intQ : CallR X (.type "int") rIntS := call_int_str
theorem call_lenS : CallR X (.builtin "len") rLenS := call_len_str
end
/-- the signs of a number's text -/
def numT (i : Int) : List Nat := TL.numL i.toNat
theorem num_T {i : Int} (h : 0 ≤ i) : (Str.ofString (toString i)) = S (numT i) := by
  obtain ⟨n, rfl⟩ : ∃ n : Nat, i = n := ⟨i.toNat, by omega⟩
  unfold numT
  rw [Int.toNat_natCast]
  exact num_S n
theorem numT_len {i : Int} (h : i < 10 ^ 29) : (numT i).length ≤ 29 := TL.numL_len (by decide) (by
  have : (10 : Int) ^ 29 = ((10 ^ 29 : Nat) : Int) := by decide
  omega)
theorem numT_ne (i : Int) : numT i ≠ [] := TL.numL_ne _
theorem numT_free {i : Int} {s : Nat} (h : s < 48 ∨ 57 < s) : s ∉ numT i := TL.numL_free h
theorem int_log {i : Int} (h0 : 0 ≤ i) (h : i < 10 ^ 29) : i.natAbs.log2 < 1920 := by
  by_cases z : i.natAbs = 0
  · rw [z]; decide
  · exact (Nat.log2_lt z).mpr (Nat.lt_of_lt_of_le (show i.natAbs < 10 ^ 29 by omega) (by
      have : (10 : Nat) ^ 29 ≤ 2 ^ 100 := by decide
      exact Nat.le_trans this (Nat.pow_le_pow_right (by decide) (by decide))))
end Pv

namespace Pv
open PySem PySem.Spec PyProof.Rows L2 SX

abbrev sLr : Stmt := topS 33
theorem scLr : FnScope ["_law_assignment_here", "_law_row_here", "_law_number_here"] ["_law_assignment_here"] (defScope sLr) := ⟨rfl, rfl, rfl, by decide +kernel, rfl, by decide +kernel, by decide +kernel⟩
def rowT (ns : List Int) : List Nat := TL.joinL [44] (ns.map numT)
theorem nums_S (ns : List Int) : ns.map (fun n => V.str (S (numT n))) = ((ns.map numT).map S).map V.str := by rw [List.map_map, List.map_map]; rfl
theorem txts_S {α : Type} (f : α → List Nat) (l : List α) : l.map (fun n => V.str (S (f n))) = ((l.map f).map S).map V.str := by rw [List.map_map, List.map_map]; rfl
theorem sum_len {B : Nat} : ∀ l : List (List Nat), (∀ t ∈ l, t.length ≤ B) → (l.map (·.length)).sum ≤ l.length * B
  | [], _ => by simp
  | t :: l, h => by
    have h1 := h t (List.mem_cons_self ..)
    have h2 := sum_len l fun u hu => h u (List.mem_cons_of_mem _ hu)
    rw [List.map_cons, List.sum_cons, List.length_cons, Nat.succ_mul]
    omega
theorem join_fits {B : Nat} {l : List (List Nat)} {a : List Nat} (hl : l.length ≤ 40) (h : ∀ t ∈ l, t.length ≤ B) (hB : B ≤ 10000) (ha : a.length ≤ 10) : ((l.map S).map (·.length)).sum + (l.map S).length * (S a).length ≤ 16777216 := by
  rw [lens, List.length_map, S_len]
  have h1 := sum_len l h
  have h2 := Nat.mul_le_mul hl hB
  have h3 := Nat.mul_le_mul hl ha
  omega
theorem joinL_len {B : Nat} {a : List Nat} : ∀ l : List (List Nat), (∀ t ∈ l, t.length ≤ B) → (TL.joinL a l).length ≤ l.length * (B + a.length)
  | [], _ => by simp [TL.joinL]
  | [t], h => by have := h t (List.mem_cons_self ..); simp [TL.joinL]; omega
  | t :: u :: l, h => by
    have h1 := h t (List.mem_cons_self ..)
    have h2 := joinL_len (a := a) (u :: l) fun v hv => h v (List.mem_cons_of_mem _ hv)
    rw [List.length_cons, Nat.succ_mul]
    simp only [TL.joinL, List.length_append] at h2 ⊢
    omega
theorem rowT_len {ns : List Int} (hl : ns.length ≤ 20) (hb : ∀ n ∈ ns, 0 ≤ n ∧ n < 10 ^ 29) : (rowT ns).length ≤ 620 := by
  have h := joinL_len (B := 29) (a := [44]) (ns.map numT) (fun t ht => by
    obtain ⟨n, hn, rfl⟩ := List.mem_map.mp ht
    exact numT_len (hb n hn).2)
  rw [List.length_map] at h
  have h2 := Nat.mul_le_mul_right (29 + [44].length) hl
  have h3 : 20 * (29 + [44].length) = 600 := rfl
  unfold rowT
  omega
theorem dI_adr {K : PySem.W.Frag} {H : Hp} {v : V} {ns : List Int} (h : Dp K H v (dI ns)) : ∃ a, v = .ref a ∧ SqT K H a (ns.map V.int) := by
  unfold dI at h
  cases h with
  | tup h1 h2 => exact ⟨_, rfl, DpAll.ints h2 ▸ h1⟩
section
variable {P : Program} {w : World} {K : PySem.W.Frag} {mg : Str → Option Value} {base : Heap}
def spJn (K : PySem.W.Frag) : Sp := fun vs H Q _ => ∃ (a : Addr) (ns : List Int), vs = [.ref a] ∧ SqT K H a (ns.map V.int) ∧ ns.length ≤ 20 ∧ (∀ n ∈ ns, 0 ≤ n ∧ n < 10 ^ 29) ∧ ∀ H', Same H H' → Q (.str (S (rowT ns))) H'
def spAt (K : PySem.W.Frag) : Sp := fun vs H Q _ => ∃ (v : V) (rows : List (List Int)), vs = [v] ∧ Dp K H v (dAsg rows) ∧ rows.length ≤ 20 ∧ (∀ r ∈ rows, r.length ≤ 20 ∧ ∀ n ∈ r, 0 ≤ n ∧ n < 10 ^ 29) ∧ ∀ H', Same H H' → Q (.str (S (TL.joinL [32] (rows.map rowT)))) H'
def spLr (K : PySem.W.Frag) : Sp := spAt K
set_option maxHeartbeats 4000000 in
theorem ok_Lr {f : Addr} {fd : FuncData} (F : Fun K "_law_row_text" "_law_row_text" sLr f fd)
    (m_str : mg "str" = none) :
    FnOk P w K mg base CX0 1 f fd ["_law_assignment_here"] (spLr K) := by
  refine F.ok scLr (fun vs H Q E h => ?_) (fun cdv A outer s H vs Q E hr h => ?_)
  · obtain ⟨v, rows, rfl, _⟩ := h; rfl
  · obtain ⟨v, rows, rfl, hV, hl, hb, q⟩ := h
    refine ⟨_, pss_one (ps_ret (pe_m1 PySem.F.slot_str_join PySem.F.type_str_join mt_joinQ (pe_str) (pe_lc (own := [("_law_row_here", 1)]) (g := gName 1) (tt := tYes) (te := tM1 (rJnS K) (tC (.str ",")) (tLc (iTup K (tVar 1)) (gName 2) (tYes) (tCB rStrI (tCons (tVar 2) tNil)) [2])) rfl scLr.nd (pi_tup (pv 0)) (blkOk_by (N := ["_law_assignment_here", "_law_row_here", "_law_number_here"]) (sc := defScope sLr) (by decide +kernel)) (fun _ _ _ _ _ => pg_name (i := 1) scLr.nd rfl (.inl rfl)) (fun _ _ _ _ _ => pts_nil) (fun _ _ _ _ _ => pe_m1 PySem.F.slot_str_join PySem.F.type_str_join mt_joinQ (pe_str) (pe_lc (own := [("_law_number_here", 2)]) (g := gName 2) (tt := tYes) (te := tCB rStrI (tCons (tVar 2) tNil)) rfl scLr.nd (pi_tup (pv 1)) (blkOk_by (N := ["_law_assignment_here", "_law_row_here", "_law_number_here"]) (sc := { kind := .function, names := [(".0", .local), ("_law_row_here", .local)], isGenerator := false, isCoroutine := false }) (by decide +kernel)) (fun _ _ _ _ _ => pg_name (i := 2) scLr.nd rfl (.inl rfl)) (fun _ _ _ _ _ => pts_nil) (fun _ _ _ _ _ => pe_callTy call_strQ (by rfl) m_str (by decide +kernel) (pa_cons (pv 2) pa_nil))))))), ?_⟩
    obtain ⟨a, ys, rfl, ha, hrows⟩ := asg_open hV
    have lys : ys.length = rows.length := by have := DpAll.len hrows; rwa [List.length_map] at this
    refine ⟨⟨_, rfl⟩, .ref a, rfl, a, rfl, ⟨_, ha⟩, fun D nD => lc_it (walk_tup (K := K) (a := a) (xs := ys)) (LcP H D rows (fun r => some (.str (S (rowT r))))) (.start nD) (fun j H3 _ h => sqS h.1 ha) ?_ ?_⟩
    · rintro j x H3 H4 hj hL ⟨rfl, hx⟩
      have hx : ys[j]? = some x := hx
      obtain ⟨d, hd, hxd⟩ := DpAll.at hrows hx
      rw [List.getElem?_map] at hd
      obtain ⟨row, hrow, rfl⟩ := Option.map_eq_some_iff.mp hd
      have hjl := (List.getElem?_eq_some_iff.mp hrow).1
      obtain ⟨T, rfl, hT⟩ := dI_adr hxd
      have hbr := hb row (List.mem_of_getElem? hrow)
      have hT3 := sqS hL.1 hT
      refine ⟨rfl, ⟨_, rfl⟩, .ref T, rfl, T, rfl, ⟨_, hT3⟩, fun D2 nD2 => lc_it (walk_tup (K := K) (a := T) (xs := row.map V.int)) (LcP H4 D2 row (fun n => some (.str (S (numT n))))) (.start nD2) (fun j H3 _ h => sqS h.1 hT3) ?_ ?_⟩
      · rintro k x H5 H6 hk hL2 ⟨rfl, hx⟩
        have hx : (row.map V.int)[k]? = some x := hx
        rw [List.getElem?_map] at hx
        obtain ⟨n, hn, rfl⟩ := Option.map_eq_some_iff.mp hx
        have hb2 := hbr.2 n (List.mem_of_getElem? hn)
        have hjl := (List.getElem?_eq_some_iff.mp hn).1
        refine ⟨rfl, .int n, rfl, n, rfl, int_log hb2.1 hb2.2, ?_⟩
        rw [num_T hb2.1]
        exact hL2.yes nD2 (Same.refl _) hn rfl (by have := hbr.1; omega)
      · rintro H5 hL2
        have e5 := hL2.done (by rw [List.length_map]; omega)
        rw [fm_map, nums_S] at e5
        refine ⟨S [44], D2, (row.map numT).map S, rfl, rfl, .inl (SqL.of e5), join_fits (B := 29) (by have := hbr.1; rw [List.length_map]; omega) (fun t ht => ?_) (by decide) (by decide), ?_⟩
        · obtain ⟨n, hn, rfl⟩ := List.mem_map.mp ht
          exact numT_len (hbr.2 n hn).2
        · rw [join_S]
          exact hL.yes nD hL2.1 hrow rfl (by omega)
    · rintro H3 hL
      have e3 := hL.done (by omega)
      rw [fm_map, txts_S] at e3
      refine ⟨S [32], D, (rows.map rowT).map S, rfl, rfl, .inl (SqL.of e3), join_fits (B := 620) (by rw [List.length_map]; omega) (fun t ht => ?_) (by decide) (by decide), ?_⟩
      · obtain ⟨r, hr, rfl⟩ := List.mem_map.mp ht
        exact rowT_len (hb r hr).1 (hb r hr).2
      · rw [join_S]
        exact q _ hL.1
end
end Pv

namespace Pv
open PySem PySem.Spec PyProof.Rows L2
/-! repr of any such value -/
theorem call_reprA {X : Cx} (hg : X.A.guards = some []) (hu : X.A.units + 70 < cLine) : CallR X (.builtin "repr")
    (fun xs H Q => ∃ v d st r, xs = [v] ∧ Dq X.K st r H v d ∧ d.showable = true ∧ d.depth ≤ 60 ∧ d.shown.length ≤ sizeLine ∧ Q (.str d.shown) H) := by
  intro pins s σ H xs us Q I rv h
  obtain ⟨v, d, st, r, rfl, hd, h1, h3, h4, q⟩ := h
  by_cases hv : ∃ a, v = .ref a
  · obtain ⟨a, rfl⟩ := hv
    exact call_reprQ hg hu pins s σ H _ us Q I rv ⟨a, d, st, r, rfl, hd, h1, h3, h4, q⟩
  · obtain ⟨u, rfl, ru⟩ := vals1 rv
    cases hd with
    | non => cases ru; exact PySem.P.repr_of_none ⟨.str _, H, I.tok _, ⟨_, rfl⟩, q⟩
    | bl b => cases ru; cases b <;> exact PySem.P.repr_of_bool ⟨.str _, H, I.tok _, ⟨_, rfl⟩, q⟩
    | int i =>
      obtain ⟨t, rfl⟩ := ru
      exact PySem.P.repr_of_int (by simpa [PyData.showable] using h1) ⟨.str _, H, I.tok _, ⟨_, rfl⟩, q⟩
    | str x =>
      obtain ⟨t, rfl⟩ := ru
      exact PySem.P.repr_of_str ⟨.str _, H, I.tok _, ⟨_, rfl⟩, q⟩ h4
    | lst _ => exact absurd ⟨_, rfl⟩ hv
    | tup _ => exact absurd ⟨_, rfl⟩ hv
    | dct _ => exact absurd ⟨_, rfl⟩ hv
/-! written values -/
def tLit (K : PySem.W.Frag) (d : PyData) : TE := fun _ H Q => ∃ st r, (H st ≠ none ∧ H r ≠ none) ∧ ∀ H' v, Same H H' → Dq K st r H' v d → Q v H'
def tLits (K : PySem.W.Frag) (ds : List PyData) : TA := fun _ H Q => ∃ st r, (H st ≠ none ∧ H r ≠ none) ∧ ∀ H' vs, Same H H' → DqAll K st r H' vs ds → Q vs H'
theorem occ {H H' : Hp} {st r : Addr} (h : H st ≠ none ∧ H r ≠ none) (s : Same H H') : H' st ≠ none ∧ H' r ≠ none := by
  obtain ⟨h1, h2⟩ := h
  constructor
  · cases e : H st with
    | none => exact absurd e h1
    | some o => rw [s _ _ e]; simp
  · cases e : H r with
    | none => exact absurd e h2
    | some o => rw [s _ _ e]; simp
theorem occ_ne {H : Hp} {st r p : Addr} (h : H st ≠ none ∧ H r ≠ none) (np : H p = none) : p ≠ st ∧ p ≠ r := ⟨fun e => h.1 (e ▸ np), fun e => h.2 (e ▸ np)⟩
theorem DqAll.rep {K : PySem.W.Frag} {st r : Addr} {H : Hp} {vs : List V} {ds : List PyData} (h : DqAll K st r H vs ds) : ∀ k : Nat, DqAll K st r H (List.replicate k vs).flatten (List.replicate k ds).flatten
  | 0 => .nil
  | k + 1 => by
    rw [List.replicate_succ, List.replicate_succ, List.flatten_cons, List.flatten_cons]
    exact h.app (DqAll.rep h k)
section
variable {X : Cx} {e : Expr} {es : List Expr} {pos p1 p2 : Pos} {d : PyData} {ds : List PyData}
theorem pe_mono {t t' : TE} (h : PE X e t) (m : ∀ σ H Q, t' σ H Q → t σ H Q) : PE X e t' := ⟨fun pins s σ H Q I q => h.run pins s σ H Q I (m _ _ _ q)⟩
theorem pa_mono {t t' : TA} (h : PA X es t) (m : ∀ σ H Q, t' σ H Q → t σ H Q) : PA X es t' := ⟨fun pos pins s σ H Q I q => h.run pos pins s σ H Q I (m _ _ _ q)⟩
theorem lit_c {v : V} (h : PE X e (tC v)) (hd : ∀ st r H, Dq X.K st r H v d) : PE X e (tLit X.K d) := pe_mono h fun σ H Q ⟨st, r, _, q⟩ => q H v (Same.refl H) (hd st r H)
theorem lit_int {n : Int} (h : PE X e (tC (.int n))) : PE X e (tLit X.K (.int n)) := lit_c h fun _ _ _ => .int n
theorem lit_bl {b : Bool} (h : PE X e (tC (.bl b))) : PE X e (tLit X.K (.bool b)) := lit_c h fun _ _ _ => .bl b
theorem lit_str {x : Str} (h : PE X e (tC (.str x))) : PE X e (tLit X.K (.str x)) := lit_c h fun _ _ _ => .str x
theorem lit_non (h : PE X e (tC .non)) : PE X e (tLit X.K .none) := lit_c h fun _ _ _ => .non
theorem lit_pow {a b : Int} (h : PE X e (tOp (rI CPow fun i j => .int (i ^ j.toNat)) (tC (.int a)) (tC (.int b)))) (hc : CPow a b) : PE X e (tLit X.K (.int (a ^ b.toNat))) :=
  pe_mono h fun σ H Q ⟨st, r, _, q⟩ => ⟨a, b, rfl, rfl, hc, q H _ (Same.refl H) (.int _)⟩
theorem lit_add {e1 e2 : Expr} {a b : Int} (h1 : PE X e1 (tLit X.K (.int a))) (h2 : PE X e2 (tLit X.K (.int b))) : PE X (.BinOp e1 .Add e2 pos) (tLit X.K (.int (a + b))) :=
  pe_mono (pe_op op_add h1 h2) fun σ H Q ⟨st, r, oc, q⟩ => ⟨st, r, oc, fun H1 v1 s1 d1 => ⟨st, r, occ oc s1, fun H2 v2 s2 d2 => by
    cases d1; cases d2
    exact ⟨a, b, rfl, rfl, q H2 _ (s1.trans s2) (.int _)⟩⟩⟩
theorem lits_nil : PA X [] (tLits X.K []) := pa_mono pa_nil fun σ H Q ⟨st, r, _, q⟩ => q H [] (Same.refl H) .nil
theorem lits_cons (h : PE X e (tLit X.K d)) (hs : PA X es (tLits X.K ds)) (hq : starEach (e :: es) X.env = (false, eval e X.env) :: starEach es X.env := by rfl) : PA X (e :: es) (tLits X.K (d :: ds)) :=
  pa_mono (pa_cons h hs hq) fun σ H Q ⟨st, r, oc, q⟩ => ⟨st, r, oc, fun H1 v s1 d1 => ⟨st, r, occ oc s1, fun H2 vs s2 d2 => q H2 _ (s1.trans s2) (.cons (d1.lasts (.of s2)) d2)⟩⟩
theorem small6 {n : Nat} (h : n ≤ 1000000) : n ≤ sizeLine := Nat.le_of_lt (Nat.lt_of_le_of_lt h (by decide))
theorem lit_tup {k : Nat} (h : PA X es (tLits X.K ds)) (hl : ds.length ≤ 1000000) : PE X (.Tuple es k pos) (tLit X.K (.tuple ds)) :=
  pe_mono (pe_tup h) fun σ H Q ⟨st, r, oc, q⟩ => ⟨st, r, oc, fun H1 vs s1 d1 => ⟨by rw [DqAll.len d1]; exact small6 hl, fun p np => q _ _ (s1.trans (sameNew np)) (.tup (SqT.of upd_same) (d1.lasts (.of (sameNew np))))⟩⟩
theorem lit_lst (h : PA X es (tLits X.K ds)) (hl : ds.length ≤ 1000000) : PE X (.List es pos) (tLit X.K (.list ds)) :=
  pe_mono (pe_lstS h) fun σ H Q ⟨st, r, oc, q⟩ => ⟨st, r, oc, fun H1 vs s1 d1 => ⟨by rw [DqAll.len d1]; exact small6 hl, fun p np ns => q _ _ (s1.trans (sameNew np)) (.lst upd_same (occ_ne (occ oc s1) np).1 (occ_ne (occ oc s1) np).2 ns (d1.lasts (.of (sameNew np))))⟩⟩
theorem lit_dict : PE X (.Dict [] [] pos) (tLit X.K (.dict [])) :=
  pe_mono pe_dnewK fun σ H Q ⟨st, r, oc, q⟩ => fun p np => q _ _ (sameNew np) (.dct (kvs := []) upd_same)
theorem lit_rep {e2 : Expr} {n : Int} (k : Nat) (h : PE X e (tLit X.K (.tuple ds))) (h2 : PE X e2 (tC (.int n))) (hk : n = (k : Nat)) (h1 : k ≠ 1) (hne : ds ≠ []) (hk2 : k ≤ 1000) (hl : ds.length ≤ 1000) :
    PE X (.BinOp e .Mult e2 pos) (tLit X.K (.tuple (List.replicate k ds).flatten)) :=
  pe_mono (pe_op op_repA h h2) fun σ H Q ⟨st, r, oc, q⟩ => ⟨st, r, oc, fun H1 v s1 d1 => by
    cases d1 with
    | @tup a xs _ hT ha =>
      have hx := DqAll.len ha
      refine ⟨a, k, xs, rfl, by rw [hk], hT, ?_, hk2, by omega, fun z => absurd z h1, fun _ p np => q _ _ (s1.trans (sameNew np)) (.tup (SqT.of upd_same) ((ha.rep k).lasts (.of (sameNew np))))⟩
      intro z
      subst z
      exact hne (List.eq_nil_of_length_eq_zero (by simpa using hx.symm))⟩
end
/-- a list and a written list behind it -/
theorem cat_lits {K : PySem.W.Frag} {st r L : Addr} {σ : L2.St} {H1 : Hp} {ds es : List PyData} {Q : VK} {vs : List V} (e1 : H1 L = some (.lst vs)) (h1 : DqAll K st r H1 vs ds) (hoc : H1 st ≠ none ∧ H1 r ≠ none) (hlen : ds.length + es.length ≤ 1000000)
    (hq : ∀ H' L' vs', Same H1 H' → H' L' = some (.lst vs') → L' ≠ st → L' ≠ r → DqAll K st r H' vs' (ds ++ es) → Q (.ref L') H') : tLst (tLits K es) σ H1 (fun y H2 => rCat (.ref L) y H2 Q) := by
  refine ⟨st, r, hoc, fun H2 v2 s2 h2 => ⟨by rw [DqAll.len h2]; exact small6 (by omega), fun M nM => ?_⟩⟩
  refine ⟨L, M, vs, v2, rfl, rfl, upNew nM (s2 _ _ e1), upd_same, by rw [DqAll.len h1, DqAll.len h2]; exact small6 (by omega), fun N nN => ?_⟩
  have sM := sameNew (o := .lst v2) nM
  have sN := sameNew (o := .lst (vs ++ v2)) nN
  have s1N := (s2.trans sM).trans sN
  have hN := occ_ne (occ (occ hoc s2) sM) nN
  exact hq _ N _ s1N upd_same hN.1 hN.2 ((h1.lasts (.of s1N)).app (h2.lasts (.of (sM.trans sN))))
/-! how large, by looking -/
mutual
def fitB (M L : Nat) : PyData → Bool
  | .none => true
  | .bool _ => true
  | .int i => decide (i.natAbs ≤ M)
  | .str x => decide ((reprText x).length ≤ L)
  | .list xs => fitAllB M L xs
  | .tuple xs => fitAllB M L xs
  | .dict kvs => decide ((PyData.shown (.dict kvs)).length ≤ 40) && PyData.showable (.dict kvs)
def fitAllB (M L : Nat) : List PyData → Bool
  | [] => true
  | x :: xs => fitB M L x && fitAllB M L xs
end
end Pv

namespace Pv
open PySem PySem.Spec PyProof.Rows L2 SX

abbrev sLt : Stmt := topS 32
theorem scLt : FnScope ["_law_instance_here", "_law_lines", "_law_wish", "_law_count", "_law_size", "_law_post"] ["_law_instance_here"] (defScope sLt) := ⟨rfl, rfl, rfl, by decide +kernel, rfl, by decide +kernel, by decide +kernel⟩
def lineP (cs : List Int) : List Nat := TL.joinL [32] ([112, 111, 115, 116, 115] :: cs.map numT)
def lineG (g : Gp) : List Nat := TL.joinL [32] ((numT g.2 ++ [58]) :: g.1.map numT)
theorem freeZ {H H' : Hp} {a : Addr} (s : Same H H') (n : H' a = none) : H a = none := by
  cases e : H a with
  | none => rfl
  | some o => have := s _ _ e; rw [n] at this; cases this
theorem lineP_len {cs : List Int} {gs : List Gp} (ok : InsOk cs gs) : (lineP cs).length ≤ 400 := by
  have h6 := ok.c6
  have h := joinL_len (B := 30) (a := [32]) ([112, 111, 115, 116, 115] :: cs.map numT) (fun t ht => by
    rcases List.mem_cons.mp ht with rfl | ht
    · decide
    · obtain ⟨n, hn, rfl⟩ := List.mem_map.mp ht
      exact Nat.le_trans (numT_len (by have := ok.cb n hn; omega)) (by decide))
  rw [List.length_cons, List.length_map] at h
  have h2 := Nat.mul_le_mul_right (30 + [32].length) (show cs.length + 1 ≤ 7 by omega)
  have h3 : 7 * (30 + [32].length) = 217 := rfl
  unfold lineP
  omega
theorem lineG_len {cs : List Int} {gs : List Gp} (ok : InsOk cs gs) {g : Gp} (hg : g ∈ gs) : (lineG g).length ≤ 400 := by
  have gk := ok.gp g hg
  have hl2 := numT_len (show g.2 < 10 ^ 29 by have := gk.2.2; omega)
  have h := joinL_len (B := 30) (a := [32]) ((numT g.2 ++ [58]) :: g.1.map numT) (fun t ht => by
    rcases List.mem_cons.mp ht with rfl | ht
    · rw [List.length_append]; simp; omega
    · obtain ⟨n, hn, rfl⟩ := List.mem_map.mp ht
      exact Nat.le_trans (numT_len (by have := gk.2.1 n hn; have := ok.c6; omega)) (by decide))
  rw [List.length_cons, List.length_map] at h
  have h2 := Nat.mul_le_mul_right (30 + [32].length) (show g.1.length + 1 ≤ 7 by have := gk.1; omega)
  have h3 : 7 * (30 + [32].length) = 217 := rfl
  unfold lineG
  omega
section
variable {P : Program} {w : World} {K : PySem.W.Frag} {mg : Str → Option Value} {base : Heap}
def spIt (K : PySem.W.Frag) : Sp := fun vs H Q _ => ∃ (i : Addr) (cs : List Int) (gs : List Gp), vs = [.ref i] ∧ Dp K H (.ref i) (dInst cs gs) ∧ InsOk cs gs ∧ ∀ H', Same H H' → Q (.str (S (TL.joinL [10] (lineP cs :: gs.map lineG)))) H'
def spLt (K : PySem.W.Frag) : Sp := spIt K
set_option maxHeartbeats 4000000 in
theorem ok_Lt {f : Addr} {fd : FuncData} (F : Fun K "_law_text" "_law_text" sLt f fd)
    (m_str : mg "str" = none) :
    FnOk P w K mg base CX0 1 f fd ["_law_instance_here"] (spLt K) := by
  refine F.ok scLt (fun vs H Q E h => ?_) (fun cdv A outer s H vs Q E hr h => ?_)
  · obtain ⟨i, cs, gs, rfl, _⟩ := h; rfl
  · obtain ⟨i, cs, gs, rfl, hI, ok, q⟩ := h
    refine ⟨_, pss_cons (ps_set (i := 1) scLt.nd rfl (.inl rfl) (pe_lst (pa_cons (pe_m1 PySem.F.slot_str_join PySem.F.type_str_join mt_joinQ (pe_str) (pe_op op_cat (pe_lst (pa_cons (pe_str) pa_nil)) (pe_lc (own := [("_law_size", 4)]) (g := gName 4) (tt := tYes) (te := tCB rStrI (tCons (tVar 4) tNil)) rfl scLt.nd (pi_tup (pe_ix ix_tup (pv 0) (pe_int) (fun _ _ => rfl))) (blkOk_by (N := ["_law_instance_here", "_law_lines", "_law_wish", "_law_count", "_law_size", "_law_post"]) (sc := defScope sLt) (by decide +kernel)) (fun _ _ _ _ _ => pg_name (i := 4) scLt.nd rfl (.inl rfl)) (fun _ _ _ _ _ => pts_nil) (fun _ _ _ _ _ => pe_callTy call_strQ (by rfl) m_str (by decide +kernel) (pa_cons (pv 4) pa_nil))))) pa_nil)))
      (pss_cons (ps_for PassesOwn.never rfl (pi_tup (pe_ix ix_tup (pv 0) (pe_int) (fun _ _ => rfl))) (pg_tup rfl (pgs_cons (pg_name (i := 2) scLt.nd rfl (.inl rfl)) (pgs_cons (pg_name (i := 3) scLt.nd rfl (.inl rfl)) pgs_nil)))
        (pss_one (ps_expr (pe_bm PySem.F.plainAttrs_list PySem.F.slot_list_append PySem.F.type_list_append mt_append (pv 1) (pa_cons (pe_m1 PySem.F.slot_str_join PySem.F.type_str_join mt_joinQ (pe_str) (pe_op op_cat (pe_lst (pa_cons (pe_op op_add_str (pe_callTy call_strQ (by rfl) m_str (by decide +kernel) (pa_cons (pv 3) pa_nil)) (pe_str)) pa_nil)) (pe_lc (own := [("_law_post", 5)]) (g := gName 5) (tt := tYes) (te := tCB rStrI (tCons (tVar 5) tNil)) rfl scLt.nd (pi_tup (pv 2)) (blkOk_by (N := ["_law_instance_here", "_law_lines", "_law_wish", "_law_count", "_law_size", "_law_post"]) (sc := defScope sLt) (by decide +kernel)) (fun _ _ _ _ _ => pg_name (i := 5) scLt.nd rfl (.inl rfl)) (fun _ _ _ _ _ => pts_nil) (fun _ _ _ _ _ => pe_callTy call_strQ (by rfl) m_str (by decide +kernel) (pa_cons (pv 5) pa_nil))))) pa_nil)))))
      (pss_one (ps_ret (pe_m1 PySem.F.slot_str_join PySem.F.type_str_join mt_joinQ (pe_str) (pv 1))))), ?_⟩
    obtain ⟨_, ca, ga, xs, e, hi, hc, hgt, hgs⟩ := inst_open hI
    cases e
    have h6 := ok.c6
    have h10 := ok.g10
    have lxs : xs.length = gs.length := by have := DpAll.len hgs; rwa [List.length_map] at this
    have bc : ∀ n ∈ cs, 0 ≤ n ∧ n < 10 ^ 29 := fun n hn => by have := ok.cb n hn; omega
    refine ⟨⟨_, rfl⟩, (show (1 : Nat) ≤ sizeLine by decide), fun P nP => ?_⟩
    have sP := sameNew (o := .lst [.str (S [112, 111, 115, 116, 115])]) nP
    have hc1 := sqS sP hc
    refine ⟨.ref i, rfl, i, _, 0, .ref ca, rfl, rfl, sqS sP hi, atI_nat (j := 0) rfl, ca, rfl, ⟨_, hc1⟩, fun D nD => lc_it (walk_tup (K := K) (a := ca) (xs := cs.map V.int)) (LcP (upd H P (.lst [.str (S [112, 111, 115, 116, 115])])) D cs (fun n => some (.str (S (numT n))))) (.start nD) (fun j H3 _ h => sqS h.1 hc1) ?_ ?_⟩
    · rintro k x H5 H6 hk hL ⟨rfl, hx⟩
      have hx : (cs.map V.int)[k]? = some x := hx
      rw [List.getElem?_map] at hx
      obtain ⟨n, hn, rfl⟩ := Option.map_eq_some_iff.mp hx
      have hb2 := bc n (List.mem_of_getElem? hn)
      have hjl := (List.getElem?_eq_some_iff.mp hn).1
      refine ⟨rfl, .int n, rfl, n, rfl, int_log hb2.1 hb2.2, ?_⟩
      rw [num_T hb2.1]
      exact hL.yes nD (Same.refl _) hn rfl (by omega)
    rintro H2 hL
    have e2 := hL.done (by rw [List.length_map]; omega)
    rw [fm_map, nums_S] at e2
    have s2 := sP.trans hL.1
    refine ⟨P, D, _, _, rfl, rfl, hL.1 _ _ upd_same, e2, small6 (by simp; omega), fun L nL => ?_⟩
    have s3 := s2.trans (sameNew (o := .lst ([V.str (S [112, 111, 115, 116, 115])] ++ ((cs.map numT).map S).map V.str)) nL)
    refine ⟨S [32], L, ([112, 111, 115, 116, 115] :: cs.map numT).map S, rfl, rfl, .inl (SqL.of upd_same), join_fits (B := 29) (by rw [List.length_cons, List.length_map]; omega) (fun t ht => ?_) (by decide) (by decide), ?_⟩
    · rcases List.mem_cons.mp ht with rfl | ht
      · decide
      · obtain ⟨n, hn, rfl⟩ := List.mem_map.mp ht
        exact numT_len (bc n hn).2
    rw [join_S]
    refine ⟨(show (1 : Nat) ≤ sizeLine by decide), fun Ls nLs => ?_⟩
    have s4 := s3.trans (sameNew (o := .lst [.str (S (lineP cs))]) nLs)
    have fLs := freeZ s3 nLs
    have eLs : (upd (upd H2 L (.lst ([V.str (S [112, 111, 115, 116, 115])] ++ ((cs.map numT).map S).map V.str))) Ls (.lst [.str (S (lineP cs))])) Ls = some (.lst [.str (S (lineP cs))]) := upd_same
    refine ⟨.ref i, rfl, i, _, 1, .ref ga, rfl, rfl, sqS s4 hi, atI_nat (j := 1) rfl, ga, rfl, ⟨_, sqS s4 hgt⟩, for_it (walk_tup (K := K) (a := ga) (xs := xs))
      (fun j σ H3 => ∃ (y1 y2 : Option V), σ = [some (.ref i), some (.ref Ls), y1, y2, none, none] ∧ Same H H3 ∧ H3 Ls = some (.lst (((lineP cs :: (gs.take j).map lineG).map S).map V.str)))
      ⟨none, none, rfl, s4, eLs⟩ (fun j σ H3 _ h => by obtain ⟨_, _, _, s9, _⟩ := h; exact sqS s9 hgt) ?_ ?_⟩
    · rintro j v σ H3 H4 hlt ⟨y1, y2, rfl, s5, e5⟩ ⟨rfl, hx⟩
      obtain ⟨d, hd, hxd⟩ := DpAll.at hgs hx
      rw [List.getElem?_map] at hd
      obtain ⟨g, hgi, rfl⟩ := Option.map_eq_some_iff.mp hd
      obtain ⟨gA, pA, rfl, hG, hPp⟩ := grp_ref hxd
      have gk := ok.gp g (List.mem_of_getElem? hgi)
      have hj : j < gs.length := (List.getElem?_eq_some_iff.mp hgi).1
      have bp : ∀ n ∈ g.1, 0 ≤ n ∧ n < 10 ^ 29 := fun n hn => by have := gk.2.1 n hn; omega
      have b2 : 0 ≤ g.2 ∧ g.2 < 10 ^ 29 := by have := gk.2.2; omega
      have hl2 := numT_len b2.2
      have lp := gk.1
      refine ⟨gA, _, rfl, sqS s5 hG, rfl, _, _, rfl, _, _, rfl, rfl, ?_⟩
      refine ⟨.ref Ls, rfl, .inl ⟨rfl, _, SqL.of e5⟩, ⟨_, rfl⟩, ?_⟩
      refine ⟨.int g.2, rfl, g.2, rfl, int_log b2.1 b2.2, _, _, rfl, rfl, ?_, ?_⟩
      · rw [num_T b2.1, S_len]; exact small6 (by show (numT g.2).length + 1 ≤ 1000000; omega)
      rw [num_T b2.1, show Str.ofString ":" = S [58] from rfl, S_cat]
      refine ⟨(show (1 : Nat) ≤ sizeLine by decide), fun P6 n6 => ?_⟩
      have s6 := sameNew (o := .lst [.str (S (numT g.2 ++ [58]))]) n6
      have hp6 := sqS (s5.trans s6) hPp
      refine ⟨.ref pA, rfl, pA, rfl, ⟨_, hp6⟩, fun D7 n7 => lc_it (walk_tup (K := K) (a := pA) (xs := g.1.map V.int)) (LcP (upd H4 P6 (.lst [.str (S (numT g.2 ++ [58]))])) D7 g.1 (fun n => some (.str (S (numT n))))) (.start n7) (fun j H3 _ h => sqS h.1 hp6) ?_ ?_⟩
      · rintro k x H5 H6 hk hL ⟨rfl, hx⟩
        have hx : (g.1.map V.int)[k]? = some x := hx
        rw [List.getElem?_map] at hx
        obtain ⟨n, hn, rfl⟩ := Option.map_eq_some_iff.mp hx
        have hb2 := bp n (List.mem_of_getElem? hn)
        have hjl := (List.getElem?_eq_some_iff.mp hn).1
        refine ⟨rfl, .int n, rfl, n, rfl, int_log hb2.1 hb2.2, ?_⟩
        rw [num_T hb2.1]
        exact hL.yes n7 (Same.refl _) hn rfl (by omega)
      rintro H8 hL
      have e8 := hL.done (by rw [List.length_map]; omega)
      rw [fm_map, nums_S] at e8
      have s8 := s6.trans hL.1
      refine ⟨P6, D7, _, _, rfl, rfl, hL.1 _ _ upd_same, e8, small6 (by simp; omega), fun L9 n9 => ?_⟩
      have s9 := s8.trans (sameNew (o := .lst ([V.str (S (numT g.2 ++ [58]))] ++ ((g.1.map numT).map S).map V.str)) n9)
      refine ⟨S [32], L9, ((numT g.2 ++ [58]) :: g.1.map numT).map S, rfl, rfl, .inl (SqL.of upd_same), join_fits (B := 30) (by rw [List.length_cons, List.length_map]; omega) (fun t ht => ?_) (by decide) (by decide), ?_⟩
      · rcases List.mem_cons.mp ht with rfl | ht
        · rw [List.length_append]; simp; omega
        · obtain ⟨n, hn, rfl⟩ := List.mem_map.mp ht
          exact Nat.le_trans (numT_len (bp n hn).2) (by decide)
      rw [join_S]
      refine ⟨Ls, _, _, rfl, rfl, s9 _ _ e5, small (by simp; omega), ?_⟩
      refine ⟨_, _, rfl, samePut (s5.trans s9) fLs, ?_⟩
      rw [upd_same, take_snoc hgi]
      simp only [List.map_append, List.map_cons, List.map_nil, List.cons_append]
      rfl
    · rintro σ H3 ⟨y1, y2, rfl, s5, e5⟩
      rw [lxs, List.take_length] at e5
      refine ⟨⟨_, rfl⟩, .ref Ls, rfl, S [10], Ls, (lineP cs :: gs.map lineG).map S, rfl, rfl, .inl (SqL.of e5), join_fits (B := 400) (by rw [List.length_cons, List.length_map]; omega) (fun t ht => ?_) (by decide) (by decide), ?_⟩
      · rcases List.mem_cons.mp ht with rfl | ht
        · exact lineP_len ok
        · obtain ⟨g, hg, rfl⟩ := List.mem_map.mp ht
          exact lineG_len ok hg
      · rw [join_S]
        exact q _ s5
end
end Pv

namespace Pv
open PySem PySem.Spec PyProof.Rows L2 SX
/-! a number's text is ascii, digits, and begins with 0 only for 0 -/
theorem numT_dig (i : Int) : ∀ c ∈ numT i, 48 ≤ c ∧ c ≤ 57 := fun c hc => TL.numL_digits _ c hc
theorem num_ascii (i : Int) : Txt.isascii (S (numT i)) = true := by
  unfold Txt.isascii
  rw [← Array.all_toList]
  refine List.all_eq_true.mpr fun c hc => ?_
  have := numT_dig i c hc
  exact decide_eq_true (by omega)
theorem num_digit (i : Int) : Txt.isdigit (S (numT i)) = true := by
  unfold Txt.isdigit
  have hl : 0 < (S (numT i)).length := by rw [S_len]; exact List.length_pos_iff.mpr (numT_ne i)
  rw [Bool.and_eq_true, decide_eq_true_eq, ← Array.all_toList]
  refine ⟨hl, List.all_eq_true.mpr fun c hc => ?_⟩
  have h := numT_dig i c hc
  have k : ∀ n : _root_.Fin 128, 48 ≤ n.val → n.val ≤ 57 → Unicode.isDigit n.val = true := by decide +kernel
  exact k ⟨c, by omega⟩ h.1 h.2
theorem num_int {i : Int} (h0 : 0 ≤ i) (h : i < 10 ^ 29) : intText? (S (numT i)) = some i := by
  have hl := numT_len h
  have e := int_S (a := numT i) (List.all_eq_true.mpr fun c hc => by
    have := numT_dig i c hc
    rw [Bool.and_eq_true, decide_eq_true_eq, decide_eq_true_eq]; exact this) (numT_ne i) (by omega)
  rw [e]
  unfold numT
  rw [TL.numL_val]
  congr 1
  omega
end Pv

namespace Pv
open PySem PySem.Spec PyProof.Rows L2 SX
/-! what parse_number reads of any text -/
def digL (a : List Nat) : Bool := a.all (fun c => decide (48 ≤ c) && decide (c ≤ 57))
theorem digL_iff {a : List Nat} : digL a = true ↔ ∀ c ∈ a, 48 ≤ c ∧ c ≤ 57 := by
  unfold digL
  rw [List.all_eq_true]
  constructor
  · intro h c hc
    have := h c hc
    rw [Bool.and_eq_true, decide_eq_true_eq, decide_eq_true_eq] at this
    exact this
  · intro h c hc
    rw [Bool.and_eq_true, decide_eq_true_eq, decide_eq_true_eq]
    exact h c hc
theorem dig_one : ∀ n : _root_.Fin 128, Unicode.isDigit n.val = (decide (48 ≤ n.val) && decide (n.val ≤ 57)) := by decide +kernel
theorem asc_iff (a : List Nat) : Txt.isascii (S a) = true ↔ ∀ c ∈ a, c < 128 := by
  unfold Txt.isascii
  rw [← Array.all_toList, List.all_eq_true]
  exact ⟨fun h c hc => of_decide_eq_true (h c hc), fun h c hc => decide_eq_true (h c hc)⟩
theorem dig_iff {a : List Nat} (h : ∀ c ∈ a, c < 128) : Txt.isdigit (S a) = (decide (a ≠ []) && digL a) := by
  have e1 : Txt.isdigit (S a) = (decide (0 < (S a).length) && a.all Unicode.isDigit) := by
    unfold Txt.isdigit
    rw [← Array.all_toList] <;> rfl
  have e2 : a.all Unicode.isDigit = digL a := by
    unfold digL
    rw [Bool.eq_iff_iff, List.all_eq_true, List.all_eq_true]
    constructor
    · intro hh c hc
      exact (dig_one ⟨c, h c hc⟩).symm.trans (hh c hc)
    · intro hh c hc
      exact (dig_one ⟨c, h c hc⟩).trans (hh c hc)
  rw [e1, e2, S_len]
  congr 1
  exact decide_eq_decide.mpr List.length_pos_iff
theorem plain_iff (a : List Nat) : (Txt.isascii (S a) = true ∧ Txt.isdigit (S a) = true) ↔ (a ≠ [] ∧ digL a = true) := by
  rw [asc_iff]
  constructor
  · rintro ⟨h, k⟩
    rw [dig_iff h, Bool.and_eq_true, decide_eq_true_eq] at k
    exact k
  · rintro ⟨h, k⟩
    have h2 : ∀ c ∈ a, c < 128 := fun c hc => by have := digL_iff.mp k c hc; omega
    refine ⟨h2, ?_⟩
    rw [dig_iff h2, Bool.and_eq_true, decide_eq_true_eq]
    exact ⟨h, k⟩
theorem sub_one (c d : Nat) : Txt.startswith (S [c]) (S [d]) = decide (c = d) := by
  unfold Txt.startswith
  rw [S_len, S_len]
  have : Builtin.Str.subAt (S [c]) (S [d]) 0 = decide (c = d) := by
    simp [Builtin.Str.subAt, S]
    show ([c] == [d]) = decide (c = d)
    rw [Bool.eq_iff_iff]
    simp
  rw [this]; rfl
theorem starts_one (d : Nat) : ∀ a : List Nat, Txt.startswith (S a) (S [d]) = decide (a.head? = some d)
  | [] => by
    unfold Txt.startswith
    rw [S_len, S_len]
    rfl
  | c :: r => by
    rw [show S (c :: r) = S [c] ++ S r from (S_cat [c] r).symm, PySem.W.KAf.starts_left (by rw [S_len, S_len]; exact Nat.le_refl _), sub_one]
    exact decide_eq_decide.mpr (by simp)
theorem ends_snoc (d : Nat) (a : List Nat) (c : Nat) : Txt.endswith (S (a ++ [c])) (S [d]) = decide (c = d) := by
  rw [← S_cat, PySem.W.KAf.ends_right (by rw [S_len, S_len]; exact Nat.le_refl _)]
  have : Txt.endswith (S [c]) (S [d]) = Txt.startswith (S [c]) (S [d]) := by
    unfold Txt.endswith Txt.startswith
    rw [S_len, S_len]; rfl
  rw [this, sub_one]
theorem ends_nil (d : Nat) : Txt.endswith (S []) (S [d]) = false := by
    unfold Txt.endswith
    rw [S_len, S_len]
    rfl
def pnO (a : List Nat) : Option Int := if a ≠ [] ∧ digL a = true then (if 30 < a.length then none else if a.head? = some 48 ∧ 1 < a.length then none else some (NumText.digitsVal a : Nat)) else none
def oV : Option Int → V
  | some n => .int n
  | none => .non
def oD : Option Int → PyData
  | some n => .int n
  | none => .none
theorem numL_head : ∀ n : Nat, 0 < n → (TL.numL n).head? ≠ some 48 := by
  intro n
  induction n using Nat.strongRecOn with
  | ind n ih =>
    intro h
    by_cases k : n < 10
    · rw [TL.numL_lt k]; simp; omega
    · rw [TL.numL_step (by omega)]
      have := ih (n / 10) (by omega) (by omega)
      cases e : TL.numL (n / 10) with
      | nil => exact absurd e (TL.numL_ne _)
      | cons c r => rw [e] at this; simpa using this
theorem pnO_num {i : Int} (h0 : 0 ≤ i) (h : i < 10 ^ 29) : pnO (numT i) = some i := by
  have hl := numT_len h
  unfold pnO
  rw [if_pos ⟨numT_ne i, digL_iff.mpr (numT_dig i)⟩, if_neg (by omega), if_neg]
  · unfold numT
    rw [TL.numL_val]
    congr 1
    omega
  · rintro ⟨h1, h2⟩
    by_cases z : i.toNat = 0
    · unfold numT at h2
      rw [z, TL.numL_lt (by decide)] at h2
      simp at h2
    · exact numL_head _ (by omega) h1
theorem pnO_nn {a : List Nat} {i : Int} (h : pnO a = some i) : 0 ≤ i := by
  unfold pnO at h
  split at h
  · split at h
    · cases h
    · split at h
      · cases h
      · cases h; omega
  · cases h
theorem oV_oD {K : PySem.W.Frag} {H : Hp} (o : Option Int) : Dp K H (oV o) (oD o) := by
  cases o with
  | none => exact .non
  | some n => exact .int n
end Pv

namespace Pv
open PySem PySem.Spec PyProof.Rows L2 SX
abbrev sPn : Stmt := topS 16
theorem scPn : FnScope ["text", "digits"] ["text", "digits"] (defScope sPn) := ⟨rfl, rfl, rfl, by decide +kernel, rfl, by decide +kernel, by decide +kernel⟩
abbrev sPs : Stmt := topS 17
theorem scPs : FnScope ["words", "word"] ["words"] (defScope sPs) := ⟨rfl, rfl, rfl, by decide +kernel, rfl, by decide +kernel, by decide +kernel⟩
theorem bT {c : Bool} {A B : Prop} (e : c = true) (h : A) : if c = true then A else B := by rw [if_pos e]; exact h
section
variable {P : Program} {w : World} {K : PySem.W.Frag} {mg : Str → Option Value} {base : Heap}
def spPn (K : PySem.W.Frag) : Sp := fun vs H Q _ => ∃ (a : List Nat), vs = [.str (S a), .int 30] ∧ a.length ≤ 100000 ∧ Q (oV (pnO a)) H
set_option maxHeartbeats 4000000 in
theorem ok_Pn {f : Addr} {fd : FuncData} (F : Fun K "parse_number" "parse_number" sPn f fd)
    (m_len : mg "len" = none) (m_int : mg "int" = none) :
    FnOk P w K mg base CX0 1 f fd ["text", "digits"] (spPn K) := by
  refine F.ok scPn (fun vs H Q E h => ?_) (fun cdv A outer s H vs Q E hr h => ?_)
  · obtain ⟨a, rfl, _⟩ := h; rfl
  · obtain ⟨a, rfl, hl, q⟩ := h
    refine ⟨_, pss_cons (ps_if (PW.pt (pw_or (pt_not (PW.pt (pw_and (pt_val (pe_m0 PySem.F.slot_str_isascii PySem.F.type_str_isascii mt_isasciiQ (pv 0))) (pw_and1 (pt_val (pe_m0 PySem.F.slot_str_isdigit PySem.F.type_str_isdigit mt_isdigitQ (pv 0))))))) (pw_or1 (pt_cmpR op_gt (pe_callB call_lenS (by rfl) m_len PySem.boot_len (pa_cons (pv 0) pa_nil)) (pv 1) (nomark _)))))
        (pss_one (ps_ret (pe_non))) pss_nil)
      (pss_cons (ps_if (PW.pt (pw_and (pt_val (pe_m1 PySem.F.slot_str_startswith PySem.F.type_str_startswith mt_startswithQ (pv 0) (pe_str))) (pw_and1 (pt_cmpR op_gt (pe_callB call_lenS (by rfl) m_len PySem.boot_len (pa_cons (pv 0) pa_nil)) (pe_int) (nomark _)))))
        (pss_one (ps_ret (pe_non))) pss_nil)
      (pss_one (ps_ret (pe_callTy call_intQ (by rfl) m_int (by decide +kernel) (pa_cons (pv 0) pa_nil))))), ?_⟩
    have hl6 : (S a).length ≤ sizeLine := by rw [S_len]; exact small6 (by omega)
    by_cases hp : a ≠ [] ∧ digL a = true
    · have k := (plain_iff a).mpr hp
      refine ⟨.str (S a), rfl, ⟨_, rfl⟩, _, rfl, rfl, trivial, _, rfl, bT k.1 ?_⟩
      refine ⟨.str (S a), rfl, ⟨_, rfl⟩, _, rfl, rfl, trivial, _, rfl, ?_⟩
      rw [k.2]
      refine iteF ?_
      refine ⟨.str (S a), rfl, _, rfl, hl6, .int 30, rfl, _, _, rfl, rfl, _, rfl, ?_⟩
      refine ite2 (fun h1 => ?_) (fun h1 => ?_)
      · have h1 : 30 < a.length := by have := of_decide_eq_true h1; rw [S_len] at this; omega
        have e : oV (pnO a) = .non := by unfold pnO; rw [if_pos hp, if_pos h1]; rfl
        rw [e] at q
        exact q
      · have h1 : ¬ 30 < a.length := fun z => h1 (decide_eq_true (by rw [S_len]; omega))
        refine ⟨.str (S a), rfl, ⟨_, rfl⟩, _, _, rfl, rfl, _, rfl, ?_⟩
        rw [show Str.ofString "0" = S [48] from rfl, starts_one]
        have fin : (∃ xs : Option Int, True) → ¬ (a.head? = some 48 ∧ 1 < a.length) → tRet (tCB rIntS (tCons (tVar 0) tNil)) { nx := fun x H' => Q V.non H', rt := Q } (L2.start [Str.ofString "text", Str.ofString "digits"] [V.str (S a), V.int 30]) H := fun _ z => by
          refine ⟨.str (S a), rfl, S a, _, rfl, int_S hp.2 hp.1 (by omega), by rw [S_len]; omega, ?_⟩
          have e : oV (pnO a) = .int (NumText.digitsVal a : Nat) := by unfold pnO; rw [if_pos hp, if_neg h1, if_neg z]; rfl
          rw [e] at q
          exact q
        refine ite2 (fun h2 => ?_) (fun h2 => ?_)
        · have h2 := of_decide_eq_true h2
          refine ⟨.str (S a), rfl, _, rfl, hl6, _, _, rfl, rfl, _, rfl, ?_⟩
          refine ite2 (fun h3 => ?_) (fun h3 => ?_)
          · have h3 : 1 < a.length := by have := of_decide_eq_true h3; rw [S_len] at this; omega
            have e : oV (pnO a) = .non := by unfold pnO; rw [if_pos hp, if_neg h1, if_pos ⟨h2, h3⟩]; rfl
            rw [e] at q
            exact q
          · exact fin ⟨none, trivial⟩ fun z => h3 (decide_eq_true (by rw [S_len]; omega))
        · exact fin ⟨none, trivial⟩ fun z => h2 (decide_eq_true z.1)
    · have e : oV (pnO a) = .non := by unfold pnO; rw [if_neg hp]; rfl
      rw [e] at q
      refine ⟨.str (S a), rfl, ⟨_, rfl⟩, _, rfl, rfl, trivial, _, rfl, ?_⟩
      refine ite2 (fun h1 => ?_) (fun h1 => ?_)
      · refine ⟨.str (S a), rfl, ⟨_, rfl⟩, _, rfl, rfl, trivial, _, rfl, ?_⟩
        have e2 : Txt.isdigit (S a) = false := by
          cases e3 : Txt.isdigit (S a) with
          | false => rfl
          | true => exact absurd ((plain_iff a).mp ⟨h1, e3⟩) hp
        rw [e2]
        exact q
      · exact q
def spPs (K : PySem.W.Frag) : Sp := fun vs H Q _ => ∃ (p : Addr) (ws : List (List Nat)), vs = [.ref p] ∧ SqL K H p ((ws.map S).map V.str) ∧ ws.length ≤ 100000 ∧ (∀ a ∈ ws, a.length ≤ 100000) ∧ ∀ H' t, Same H H' → H' t = some (.tup (ws.map fun a => oV (pnO a))) → Q (.ref t) H'
set_option maxHeartbeats 4000000 in
theorem ok_Ps {f fPn : Addr} {fd fdPn : FuncData} (F : Fun K "parse_numbers" "parse_numbers" sPs f fd)
    (FPn : Fun K "parse_number" "parse_number" sPn fPn fdPn) (bPn : Binds K fdPn ["text", "digits"] []) (gPn : mg "parse_number" = some (.ref fPn)) (GPn : FnOk P w K mg base CX0 1 fPn fdPn ["text", "digits"] (spPn K))
    {uLONGEST : Value} (vLONGEST : mg "LONGEST" = some uLONGEST) (rLONGEST : RelV (.int 30) uLONGEST)
    (m_tuple : mg "tuple" = none) :
    FnOk P w K mg base CX0 2 f fd ["words"] (spPs K) := by
  refine F.ok scPs (fun vs H Q E h => ?_) (fun cdv A outer s H vs Q E hr h => ?_)
  · obtain ⟨p, ws, rfl, _⟩ := h; rfl
  · obtain ⟨p, ws, rfl, hp, hl, hb, q⟩ := h
    refine ⟨_, pss_one (ps_ret (pe_callTy call_tupQ (by rfl) m_tuple (by decide +kernel) (pa_cons (pe_lc (own := [("word", 1)]) (g := gName 1) (tt := tYes) (te := tCall (spPn K) [] E0 (tCons (tVar 1) (tCons (tC (.int 30)) tNil))) rfl scPs.nd (pi_list (pv 0)) (blkOk_by (N := ["words", "word"]) (sc := defScope sPs) (by decide +kernel)) (fun _ _ _ _ _ => pg_name (i := 1) scPs.nd rfl (.inl rfl)) (fun _ _ _ _ _ => pts_nil) (fun _ _ _ _ _ => pe_call GPn (hr.mono (by omega)) (by rfl) gPn FPn.kp bPn .nil pass0 (pa_cons (pv 1) (pa_cons (pe_glob (by rfl) vLONGEST rLONGEST) pa_nil)))) pa_nil))), ?_⟩
    have hp2 : SqL K H p (ws.map fun a => V.str (S a)) := by rw [List.map_map] at hp; exact hp
    refine ⟨.ref p, rfl, p, rfl, ⟨_, hp2⟩, fun D nD => lc_it (walk_list (K := K) (a := p)) (LcP H D ws (fun a => some (oV (pnO a)))) (.start nD) (fun j H3 _ h => h.1.seq hp2) ?_ ?_⟩
    · rintro j x H3 H4 hj hL ⟨rfl, hx⟩
      have hx : (ws.map fun a => V.str (S a))[j]? = some x := hx
      rw [List.getElem?_map] at hx
      obtain ⟨n, hn, rfl⟩ := Option.map_eq_some_iff.mp hx
      have hjl := (List.getElem?_eq_some_iff.mp hn).1
      refine ⟨rfl, .str (S n), rfl, n, rfl, hb n (List.mem_of_getElem? hn), ?_⟩
      exact hL.yes nD (Same.refl _) hn rfl (by omega)
    · rintro H3 hL
      have e3 := hL.done (by rw [List.length_map]; omega)
      rw [fm_map] at e3
      exact ⟨D, _, rfl, .inl ⟨SqL.of e3, fun t nt => q _ t (hL.1.trans (sameNew nt)) upd_same⟩⟩
end
end Pv

namespace Pv
open PySem PySem.Spec PyProof.Rows L2
section
variable {K : PySem.W.Frag} {H : Hp} {a b : Addr} {xs ys : List V} {Q : VK}
/-! slices and sums of tuples, whichever object comes back -/
theorem take_eq (hP : SqT K H a xs) (n : Nat) (h : ∀ (H' : Hp) (b : Addr), Same H H' → SqT K H' b (xs.take n) → Q (.ref b) H') : rSlA K (.ref a) none (some (n : Int)) H Q := by
  have hcut : cutV xs none (some (n : Int)) = xs.take n := cut_to _ n
  refine ⟨a, _, rfl, hP, fun hw => ?_, fun _ p np => ?_⟩
  · refine h H a (Same.refl _) ?_
    have e : xs.take n = xs := by
      rw [← hcut]
      unfold cutV
      rw [hw.1, hw.2, List.drop_zero, Nat.sub_zero, List.take_length]
    rw [e]; exact hP
  · refine h _ p (sameNew np) (SqT.of ?_)
    rw [upd_same, hcut]
theorem cut_tail (xs : List V) (n : Nat) : cutV xs (some (n : Int)) none = xs.drop n := by
  unfold cutV
  rw [HT.sIx_nat, HT.sIx_none]
  by_cases h : n ≤ xs.length
  · rw [Nat.min_eq_left h, List.take_of_length_le (by rw [List.length_drop]; exact Nat.le_refl _)]
  · rw [Nat.min_eq_right (by omega), List.drop_eq_nil_of_le (Nat.le_refl _), List.drop_eq_nil_of_le (by omega)]; simp
theorem drop_eq (hP : SqT K H a xs) (n : Nat) (h : ∀ (H' : Hp) (b : Addr), Same H H' → SqT K H' b (xs.drop n) → Q (.ref b) H') : rSlA K (.ref a) (some (n : Int)) none H Q := by
  have hcut := cut_tail xs n
  refine ⟨a, _, rfl, hP, fun hw => ?_, fun _ p np => ?_⟩
  · refine h H a (Same.refl _) ?_
    have e : xs.drop n = xs := by
      rw [← hcut]
      unfold cutV
      rw [hw.1, hw.2, List.drop_zero, Nat.sub_zero, List.take_length]
    rw [e]; exact hP
  · refine h _ p (sameNew np) (SqT.of ?_)
    rw [upd_same, hcut]
theorem cat_eq (ha : SqT K H a xs) (hb : SqT K H b ys) (hz : xs.length + ys.length ≤ sizeLine) (h : ∀ (H' : Hp) (p : Addr), Same H H' → SqT K H' p (xs ++ ys) → Q (.ref p) H') : rCatA K (.ref a) (.ref b) H Q := by
  refine ⟨a, b, xs, ys, rfl, rfl, ha, hb, hz, fun e => ?_, fun _ e => ?_, fun _ _ p np => ?_⟩
  · subst e; exact h H b (Same.refl _) (by simpa using hb)
  · subst e; exact h H a (Same.refl _) (by simpa using ha)
  · exact h _ p (sameNew np) (SqT.of upd_same)
end
/-! the greatest of a tuple of ints -/
def rMaxT (K : PySem.W.Frag) : RC := fun xs H Q => ∃ (a : Addr) (ns : List Int), xs = [.ref a] ∧ SqT K H a (ns.map V.int) ∧ 0 < ns.length ∧ ∀ m, m ∈ ns → (∀ y ∈ ns, y ≤ m) → Q (.int m) H
theorem call_maxT {X : Cx} (hc : X.calm = true) : CallR X (.builtin "max") (rMaxT X.K) := by
  intro pins s σ H xs us Q I r h
  obtain ⟨a, ns, rfl, hT, hne, q⟩ := h
  obtain ⟨u, rfl, rfl⟩ := vals1 r
  obtain ⟨its, rv, ht, hz⟩ := I.tuple hT
  have hi : IntsAre its ns := rv.ints
  obtain ⟨ys, e⟩ := hi.allInts.items
  have hn : numsOf (intItems ys).toList = ns := by rw [← e]; exact hi.numsOf
  rw [nums_intItems] at hn
  rw [e] at ht
  subst hn
  have hsz : 0 < ys.size := by simpa using hne
  have ht' : s.heap.IsTuple a (intItems ys) := ht
  have hlt : a < s.heap.objs.size := by obtain ⟨_, z, _⟩ := ht; exact Heap.lt_size z
  refine call_max_walk (wpAny_pyIter_tuple ht' ?_)
  refine ⟨_, _, _, _, _, _, _, rfl, Walks.tuple (A := X.A.in1) (I.ok.hd hc) _ a (Nat.ne_of_lt hlt) (intItems ys), ⟨⟨_, Heap.get?_push_size _ rfl, rfl, rfl⟩, ht'.push _⟩, ?_, by simpa [intItems] using hsz, CmpOf.ints_gt (numAt ys) (fun _ _ => intItems_at), ?_⟩
  · intro b hb
    show b < (s.heap.push _).objs.size
    rw [Heap.size_push]
    simp only [List.mem_cons, List.not_mem_nil, or_false] at hb
    rcases hb with rfl | rfl
    · exact Nat.lt_succ_self _
    · exact Nat.lt_succ_of_lt hlt
  · intro v h' tk hP hk
    have hP' : (intItems ys)[argBest (fun i j => decide (numAt ys i > numAt ys j)) (ys.size - 1)]? = some v := by simpa [intItems] using hP
    obtain ⟨t, rfl⟩ := intItems_at hP'
    obtain ⟨h1, h2⟩ := argBest_gt (numAt ys) (ys.size - 1)
    refine ⟨.int _, H, I.kept (t' := tk) (h' := h') ?_, ⟨_, rfl⟩, q _ ?_ ?_⟩
    · intro b o eb
      refine hk b o (fun hm => ?_) (Heap.get?_push_of_some _ eb)
      exact absurd (Heap.lt_size eb) ((List.mem_singleton.mp hm) ▸ Nat.lt_irrefl _)
    · rw [numAt_eq]; exact PySem.getD_mem (by rw [List.length_map, Array.length_toList]; omega)
    · intro y hy
      obtain ⟨j, hj, rfl⟩ := mem_getD hy
      rw [List.length_map, Array.length_toList] at hj
      rw [← numAt_eq]; exact h2 j (by omega)
end Pv

namespace Pv
open PySem PySem.Spec PyProof.Rows L2 SX
/-! words of a text -/
theorem pre_one (c d : Nat) (r : List Nat) : TL.pre [c] (d :: r) = decide (d = c) := by
  unfold TL.pre
  rw [Bool.eq_iff_iff]
  simp
theorem spl_len (c : Nat) : ∀ (l acc : List Nat), (TL.spl [c] 0 acc l).length ≤ l.length + 1
  | [], acc => by rw [TL.spl_nil]; simp
  | d :: r, acc => by
    by_cases h : TL.pre [c] (d :: r) = true
    · rw [TL.spl_hit h]
      have := spl_len c r []
      simp only [List.length_cons, List.length_nil] at this ⊢
      exact Nat.succ_le_succ this
    · rw [TL.spl_miss (by simpa using h)]
      have := spl_len c r (acc ++ [d])
      rw [List.length_cons]; omega
theorem spl_each (c : Nat) : ∀ (l acc : List Nat), ∀ w ∈ TL.spl [c] 0 acc l, w.length ≤ acc.length + l.length
  | [], acc => by rw [TL.spl_nil]; simp
  | d :: r, acc => by
    intro w hw
    by_cases h : TL.pre [c] (d :: r) = true
    · rw [TL.spl_hit h] at hw
      rcases List.mem_cons.mp hw with rfl | hw
      · omega
      · have := spl_each c r [] w hw
        simp at this ⊢; omega
    · rw [TL.spl_miss (by simpa using h)] at hw
      have := spl_each c r (acc ++ [d]) w hw
      simp at this ⊢; omega
theorem spl_some (c : Nat) : ∀ (l acc : List Nat), TL.spl [c] 0 acc l ≠ []
  | [], acc => by rw [TL.spl_nil]; simp
  | d :: r, acc => by
    by_cases h : TL.pre [c] (d :: r) = true
    · rw [TL.spl_hit h]; simp
    · rw [TL.spl_miss (by simpa using h)]; exact spl_some c r _
def wds (c : Nat) (a : List Nat) : List (List Nat) := TL.spl [c] 0 [] a
theorem wds_len (c : Nat) (a : List Nat) : (wds c a).length ≤ a.length + 1 := spl_len c a []
theorem wds_each {c : Nat} {a w : List Nat} (h : w ∈ wds c a) : w.length ≤ a.length := by have := spl_each c a [] w h; simpa using this
theorem wds_cons (c : Nat) (a : List Nat) : ∃ w ws, wds c a = w :: ws := by
  cases e : wds c a with
  | nil => exact absurd e (spl_some c a [])
  | cons w ws => exact ⟨w, ws, rfl⟩
theorem wds_join {c : Nat} {parts : List (List Nat)} (hne : parts ≠ []) (h : ∀ p ∈ parts, c ∉ p) : wds c (TL.joinL [c] parts) = parts := spl_join hne h
theorem split_wds {a : List Nat} {c : Nat} (hc : c < 256) : Txt.split (S a) (S [c]) = (wds c a).map S := split_S (by simp) (by simpa using hc)
def dWs (ws : List (List Nat)) : List PyData := ws.map fun a => oD (pnO a)
theorem dp_ws {K : PySem.W.Frag} {H : Hp} (ws : List (List Nat)) : DpAll K H (ws.map fun a => oV (pnO a)) (dWs ws) := by
  unfold dWs
  induction ws with
  | nil => exact .nil
  | cons a ws ih => exact .cons (oV_oD _) ih
theorem to_oD (o : Option Int) : tupOnly (oD o) = true := by cases o <;> rfl
theorem to_ws (ws : List (List Nat)) : tupOnly (.tuple (dWs ws)) = true := by
  simp only [tupOnly]
  refine tupOnlyAll_of fun d hd => ?_
  unfold dWs at hd
  obtain ⟨a, _, rfl⟩ := List.mem_map.mp hd
  exact to_oD _
theorem cut_tail1 (xs : List V) : cutV xs (some 1) none = xs.drop 1 := cut_tail xs 1
theorem to_pair (a b : PyData) (h : tupOnly a = true) (k : tupOnly b = true) : tupOnly (.tuple [a, b]) = true := by simp [tupOnly, tupOnlyAll, h, k]
theorem to_one (a : PyData) (h : tupOnly a = true) : tupOnly (.tuple [a]) = true := by simp [tupOnly, tupOnlyAll, h]
theorem ends_last (d : Nat) (w : List Nat) : Txt.endswith (S w) (S [d]) = decide (w.getLast? = some d) := by
  rcases List.eq_nil_or_concat w with rfl | ⟨b, c, rfl⟩
  · rw [ends_nil]; simp
  · rw [List.concat_eq_append, ends_snoc]
    exact decide_eq_decide.mpr (by simp)
theorem slice_drop {w : List Nat} (h : w ≠ []) : Txt.slice (S w) none (some (-1)) = S w.dropLast := by
  rw [slice_butlast h, List.dropLast_eq_take]
end Pv

namespace Pv
open PySem PySem.Spec PyProof.Rows L2 SX

abbrev sIs : Stmt := topS 19
theorem scIs : FnScope ["instance", "group", "share", "posts", "count"] ["instance", "group", "share"] (defScope sIs) := ⟨rfl, rfl, rfl, by decide +kernel, rfl, by decide +kernel, by decide +kernel⟩
theorem slLt {K : PySem.W.Frag} {H : Hp} {a : Addr} {xs : List V} {Q : VK} {σ : L2.St} {lo : Option Int} (hP : SqL K H a xs) (h : ∀ p, H p = none → Q (.ref p) (upd H p (.lst (cutV xs lo none)))) : tNoPart σ H (fun u H3 => rSlL K (.ref a) lo u H3 Q) := ⟨a, xs, rfl, hP, h⟩
theorem dp_at {K : PySem.W.Frag} {H : Hp} : ∀ {vs : List V} {ds : List PyData} {i : Nat} {d : PyData}, DpAll K H vs ds → ds[i]? = some d → ∃ v, vs[i]? = some v ∧ Dp K H v d
  | _, _, _, _, .nil, e => by simp at e
  | _, _, 0, _, .cons h _, e => by simp at e; subst e; exact ⟨_, rfl, h⟩
  | _, _, i + 1, _, .cons _ t, e => by
    simp at e
    obtain ⟨v, hv, h⟩ := dp_at t e
    exact ⟨v, by simpa using hv, h⟩
def ppD (a : List Nat) : PyData := match wds 32 a with
  | [] => .none
  | w0 :: ws => if w0 = [112, 111, 115, 116, 115] ∧ postsE (.tuple (dWs ws)) = none then .tuple (dWs ws) else .none
def gD (w0 : List Nat) (ws : List (List Nat)) : PyData := .tuple [.tuple (dWs ws), oD (pnO w0.dropLast)]
def pgD (n : Nat) (a : List Nat) : PyData := match wds 32 a with
  | [] => .none
  | w0 :: ws => if w0.getLast? = some 58 ∧ groupsE n (.tuple [gD w0 ws]) = none then gD w0 ws else .none
section
variable {P : Program} {w : World} {K : PySem.W.Frag} {mg : Str → Option Value} {base : Heap}
def spPp (K : PySem.W.Frag) : Sp := fun vs H Q _ => ∃ (a : List Nat), vs = [.str (S a)] ∧ a.length ≤ 90000 ∧ ∀ H' x, Same H H' → Dp K H' x (ppD a) → Q x H'
def spPg (K : PySem.W.Frag) : Sp := fun vs H Q _ => ∃ (a : List Nat) (n : Nat), vs = [.str (S a), .int n] ∧ a.length ≤ 90000 ∧ n ≤ 50 ∧ ∀ H' x, Same H H' → Dp K H' x (pgD n a) → Q x H'
def spIs (K : PySem.W.Frag) : Sp := fun vs H Q _ => ∃ (st r i : Addr) (g : Nat) (v : V) (cs : List Int) (gs : List Gp) (d : PyData) (gp : Gp), vs = [.ref i, .int g, v] ∧ Dp K H (.ref i) (dInst cs gs) ∧ InsOk cs gs ∧ gs[g]? = some gp ∧ Dq K st r H v d ∧ ∀ H', Same H H' → Q (.bl (shareD gp d)) H'
set_option maxHeartbeats 4000000 in
theorem ok_Is {f fSp : Addr} {fd fdSp : FuncData} (F : Fun K "is_share" "is_share" sIs f fd)
    (FSp : Fun K "is_split" "is_split" sSp fSp fdSp) (bSp : Binds K fdSp ["value", "size", "total"] []) (gSp : mg "is_split" = some (.ref fSp)) (GSp : FnOk P w K mg base CX0 3 fSp fdSp ["value", "size", "total"] (spSplit K))
    (m_len : mg "len" = none) :
    FnOk P w K mg base CX0 4 f fd ["instance", "group", "share"] (spIs K) := by
  refine F.ok scIs (fun vs H Q E h => ?_) (fun cdv A outer s H vs Q E hr h => ?_)
  · obtain ⟨st, r, i, g, v, cs, gs, d, gp, rfl, _⟩ := h; rfl
  · obtain ⟨st, r, i, g, v, cs, gs, d, gp, rfl, hI, ok, hg, hv, q⟩ := h
    refine ⟨_, pss_cons (ps_asg (pe_ix ix_tup (pe_ix ix_tup (pv 0) (pe_int) (fun _ _ => rfl)) (pv 1) (fun _ _ => rfl)) (pg_tup rfl (pgs_cons (pg_name (i := 3) scIs.nd rfl (.inl rfl)) (pgs_cons (pg_name (i := 4) scIs.nd rfl (.inl rfl)) pgs_nil))))
      (pss_one (ps_ret (pe_call GSp (hr.mono (by omega)) (by rfl) gSp FSp.kp bSp .nil pass0 (pa_cons (pv 2) (pa_cons (pe_op op_add (pe_callB call_lenQ (by rfl) m_len PySem.boot_len (pa_cons (pv 3) pa_nil)) (pe_int)) (pa_cons (pv 4) pa_nil)))))), ?_⟩
    obtain ⟨_, ca, ga, xs, e, hi, hc, hgt, hgs⟩ := inst_open hI
    cases e
    obtain ⟨u, hu, hud⟩ := dp_at hgs (show (gs.map dGrp)[g]? = some (dGrp gp) by rw [List.getElem?_map, hg]; rfl)
    obtain ⟨gA, pA, rfl, hG, hPp⟩ := grp_ref hud
    have gk := ok.gp gp (List.mem_of_getElem? hg)
    refine ⟨.ref i, rfl, i, _, 1, .ref ga, rfl, rfl, hi, atI_nat (j := 1) rfl, .int g, rfl, ga, _, g, .ref gA, rfl, rfl, hgt, atI_nat hu, ?_⟩
    refine ⟨gA, _, rfl, hG, rfl, _, _, rfl, _, _, rfl, rfl, ?_⟩
    have hb := gk.1
    refine ⟨v, rfl, .ref pA, rfl, pA, _, rfl, .inr hPp, _, _, rfl, rfl, .int gp.2, rfl, st, r, v, d, ((gp.1.map V.int).length : Int) + 1, gp.2, rfl, hv, by rw [List.length_map]; omega, fun H' s' => ?_⟩
    rw [List.length_map, split_share]
    exact q _ s'
end
end Pv

namespace Pv
open PySem PySem.Spec PyProof.Rows L2
/-! errors of the program's own classes -/
abbrev VEbm : List Value := [.type "ValueError", .type "Exception", .type "BaseException", .type "object"]
theorem pmk_own0 {X : Cx} {C : Addr} {bmB : List Value} {B newId initId : String} {x : Str} {p pos : Pos} (F : ExcBaseFacts B newId initId bmB) (q : PySem.W.excIn X.K C bmB newId = true) (gC : X.mg x = some (.ref C))
    (kC : PySem.W.keepIn X.K (.ref C) = true) (r : Raises X (.ref C)) (hg : Gl X x) (hdb : (x == ("__debug__" : Str)) = false := by decide) :
    PMk X (.Call (.Name x p) [] [] pos) (fun _ H Q => Q (.ref C) none H) := by
  intro pins s σ H Q I h
  refine wpAny_Call_Name_kw (ld_glob I hg gC ?_ hdb)
  refine PySem.W.callWith_K0 I.kIn kC ?_
  obtain ⟨bm, N, nm, qn, bs, hdct, sn, sub, ab, col, dd, k0, k1, k2, k3, k5, mN, hC, hN, hni, T⟩ := exc_obj I.kIn q
  show wpAny _ _ (call (.ref C) []) _ _ _
  refine wpAny_call_exc_subT F T hC hN hni (fun h' e hm => ?_) (Nat.zero_le _)
  exact mk_of I hm r h (I.hok.gone hm.new)
/-- what is asked of a class whose errors isinstance is asked of -/
structure IsC (K : PySem.W.Frag) (D : Addr) : Prop where
  cl : (PySem.W.clsIn K D).isSome = true
  hg : PySem.W.findIn K (.ref D) "__getattribute__" = some (some (.builtin "BaseException.__getattribute__"))
  hk : PySem.W.findIn K (.ref D) "__getattr__" = some none
  hs : PySem.W.subIn K (.ref D) (.type "BaseException") = some true
  ty : PySem.W.typeIn K (.ref D) = some (.type "type")
  ha : PySem.W.findIn K (.ref D) "__class__" = some (some (.builtin "object.__class__"))
  hn : PySem.W.specialIn K (.builtin "object.__class__") "__get__" = some (some (.builtin "getset_descriptor.__get__"))
  ht : PySem.W.takesIn K (.builtin "object.__class__") = some true
  hm : PySem.W.mroIn K D (.type "object") = some true
  kp : PySem.W.keepIn K (.ref D) = true
def isCB (K : PySem.W.Frag) (D : Addr) : Bool :=
  (PySem.W.clsIn K D).isSome && (decide (PySem.W.findIn K (.ref D) "__getattribute__" = some (some (.builtin "BaseException.__getattribute__"))) && (decide (PySem.W.findIn K (.ref D) "__getattr__" = some none) &&
  (decide (PySem.W.subIn K (.ref D) (.type "BaseException") = some true) && (decide (PySem.W.typeIn K (.ref D) = some (.type "type")) && (decide (PySem.W.findIn K (.ref D) "__class__" = some (some (.builtin "object.__class__"))) &&
  (decide (PySem.W.specialIn K (.builtin "object.__class__") "__get__" = some (some (.builtin "getset_descriptor.__get__"))) && (decide (PySem.W.takesIn K (.builtin "object.__class__") = some true) &&
  (decide (PySem.W.mroIn K D (.type "object") = some true) && PySem.W.keepIn K (.ref D)))))))))
theorem isCB_ok {K : PySem.W.Frag} {D : Addr} (h : isCB K D = true) : IsC K D := by
  simp only [isCB, Bool.and_eq_true, decide_eq_true_eq] at h
  obtain ⟨h1, h2, h3, h4, h5, h6, h7, h8, h9, h10⟩ := h
  exact ⟨h1, h2, h3, h4, h5, h6, h7, h8, h9, h10⟩
theorem IsC.raises {X : Cx} {D : Addr} (c : IsC X.K D) : Raises X (.ref D) := raises_own c.hs c.ty
/-- isinstance(e, c), e the error that the suite holds, c a class or a tuple of classes -/
def rIsX (K : PySem.W.Frag) (a : Addr) (cls : Value) (d : Option Addr) : RC := fun xs H Q => ∃ (D : Addr) (c : V) (b : Bool), cls = .ref D ∧ IsC K D ∧ (∀ dx, d = some dx → ∃ fs, H dx = some (.xd fs)) ∧ xs = [.ref a, c] ∧
  ((∃ u, ClsV c u ∧ PySem.W.kitOne K (.ref D) u = some b) ∨ ∃ (tp : Addr) (cs : List V) (us : List Value), c = .ref tp ∧ H tp = some (.tup cs) ∧ Paired ClsV cs us ∧ PySem.W.kitAny K (.ref D) us = some b) ∧ Q (.bl b) H
theorem call_isX {X : Cx} {a : Addr} {oe : Obj} {cls : Value} {d : Option Addr} {pn : List (Addr × Obj)} (hz : Zc cls d oe) (hf : ∃ vs, oe.data = .fields vs) : CallR (X.suite a ((a, oe) :: pn)) (.builtin "isinstance") (rIsX X.K a cls d) := by
  intro pins s σ H xs us Q I r h
  obtain ⟨D, c, b, rfl, C, hdx, rfl, hc, q⟩ := h
  obtain ⟨u1, u2, rfl, r1, r2⟩ := vals2 r
  cases (show u1 = Value.ref a from r1)
  obtain ⟨hget, _⟩ := I.pin (a, oe) (List.mem_append.mpr (.inl List.mem_cons_self))
  obtain ⟨vs, hv⟩ := hf
  have J : ∃ od, PySem.W.InstAt s.heap a oe D od := by
    cases d with
    | none =>
      refine ⟨none, hget, hz.1, by unfold PySem.W.notCls; rw [hv] <;> rfl, ?_⟩
      rw [hz.2]; trivial
    | some dx =>
      obtain ⟨fs, e⟩ := hdx dx rfl
      have hx : ObjOk X.prog X.w H s.heap dx (.xd fs) := I.hok dx _ e
      obtain ⟨mA, hns, _⟩ := hx
      obtain ⟨od, ho, _⟩ := lookIn_ns hns
      exact ⟨some od, hget, hz.1, by unfold PySem.W.notCls; rw [hv] <;> rfl, by rw [hz.2]; exact ho⟩
  obtain ⟨od, J⟩ := J
  have Z := PySem.W.kitx_exc (K := X.K) (x := a) (C := D) (ox := oe) (od := od) C.cl C.hg C.hk C.hs C.ha C.hn C.ht C.hm
  rcases hc with ⟨u, ku, e⟩ | ⟨tp, cs, ws, rfl, hT, ks, e⟩
  · have e2 := ku.eq r2
    subst e2
    exact PySem.W.kia_one Z I.kIn J e (fun z => nomatch z) fun tk => ⟨.bl b, H, I.kept (t' := tk) fun _ _ z => z, rfl, q⟩
  · cases (show u2 = Value.ref tp from r2)
    obtain ⟨_, its, rv, o, h1, h2, n, h3⟩ := (show ObjOk X.prog X.w H s.heap tp (.tup cs) from I.hok tp _ hT)
    have e3 := ClsV.all ks rv
    subst e3
    obtain ⟨oc, od', dt, sl⟩ := o
    simp only at h2 h3
    subst h2 h3
    exact PySem.W.kia_tup Z I.kIn J h1 e (fun z => nomatch z) fun tk => ⟨.bl b, H, I.kept (t' := tk) fun _ _ z => z, rfl, q⟩
end Pv

namespace Pv
open PySem PySem.Spec PyProof.Rows L2
/-! an error with one field of its own -/
def inCls (st : Stmt) (i : Nat) : Stmt := match st with
  | .ClassDef _ _ _ body _ _ _ _ _ _ _ => body.getD i (.Pass ⟨0, 0, 0, 0⟩)
  | _ => .Pass ⟨0, 0, 0, 0⟩
def spI1 (C : Addr) (fld : Str) : Sp := fun vs H Q _ => ∃ (a : Addr) (v : V), vs = [.ref a, v] ∧ H a = some (exo a C none) ∧ ∀ dx, H dx = none → dx ≠ a → Q .non (upd (upd H dx (exd dx [(fld, v)])) a (exo a C (some dx)))
theorem mkO1 {C : Addr} {fld : Str} {v : V} {H1 : Hp} {Q : XK} (h : ∀ d, H1 d = none → Q (.ref C) (some d) (upd H1 d (.xd [(fld, v)]))) :
    [v].length ≤ 1000 ∧ ∀ a, H1 a = none → spI1 C fld (.ref a :: ([v] ++ [])) (upd H1 a (exo a C none))
      (fun v' H2 => v' = .non ∧ ∃ (d : Addr) (fs : List (Str × V)), H2 a = some (exo a C (some d)) ∧ H2 d = some (exd d fs) ∧ H1 d = none ∧ Q (.ref C) (some d) (upd (del H2 a) d (.xd fs))) (fun _ _ _ => False) := by
  refine ⟨by simp, fun a na => ⟨a, v, rfl, upd_same, fun dx nd ne => ⟨rfl, dx, [(fld, v)], upd_same, ?_, ?_, ?_⟩⟩⟩
  · rw [upd_ne ne]; exact upd_same
  · rw [upd_ne ne] at nd; exact nd
  · have nd1 : H1 dx = none := by rw [upd_ne ne] at nd; exact nd
    have e : upd (del (upd (upd (upd H1 a (exo a C none)) dx (exd dx [(fld, v)])) a (exo a C (some dx))) a) dx (.xd [(fld, v)]) = upd H1 dx (.xd [(fld, v)]) := by
      funext b
      by_cases hb : b = dx
      · rw [hb, upd_same, upd_same]
      · rw [upd_ne hb, upd_ne hb]
        by_cases ha : b = a
        · rw [ha, del_same, na]
        · rw [del_ne ha, upd_ne ha, upd_ne hb, upd_ne ha]
    rw [e]
    exact h dx nd1
/-- what the written part says of such a class -/
structure XF (K : PySem.W.Frag) (C fI : Addr) (fld : Str) : Prop where
  T : OexC K C
  iC : PySem.W.findIn K (.ref C) "__init__" = some (some (.ref fI))
  tI : PySem.W.typeIn K (.ref fI) = some (.type "function")
  no : PySem.W.findIn K (.ref C) fld = some none
  rd : XfC K C
def xf1B (K : PySem.W.Frag) (C fI : Addr) (fld : Str) : Bool :=
  decide (PySem.W.findIn K (.ref C) "__setattr__" = some (some (.builtin "object.__setattr__"))) && (decide (PySem.W.subIn K (.ref C) (.type "BaseException") = some true) && (decide (PySem.W.typeIn K (.ref C) = some (.type "type")) && (PySem.W.keepIn K (.ref C) &&
  (decide (PySem.W.findIn K (.ref C) "__init__" = some (some (.ref fI))) && (decide (PySem.W.typeIn K (.ref fI) = some (.type "function")) && (decide (PySem.W.findIn K (.ref C) fld = some none) && xfB K C))))))
theorem xf1B_ok {K : PySem.W.Frag} {C fI : Addr} {fld : Str} (h : xf1B K C fI fld = true) (c : ∃ nm q N bs bm sn sub ab col dd k0 k1 k2 k3 k5, K.lookup C = some (excClassObj nm q C N bs bm true sn sub ab col dd k0 k1 k2 k3 k5 "ValueError.__new__") ∧ PySem.HandSPX.refsVE bm = true) : XF K C fI fld := by
  simp only [xf1B, Bool.and_eq_true, decide_eq_true_eq] at h
  obtain ⟨h1, h2, h3, h4, h5, h6, h7, h8⟩ := h
  exact ⟨⟨c, h1, h2, h3, h4⟩, h5, h6, h7, xfB_ok h8⟩
end Pv

namespace Pv
open PySem PySem.Spec PyProof.Rows L2 SX

def isStrD : PyData → Bool
  | .str _ => true
  | _ => false
theorem kit_strD {K : PySem.W.Frag} (d : PyData) : PySem.W.kitOne K (.type (tyN d)) (.type "str") = some (isStrD d) := by
  cases d with
  | none => exact kit_ty (b := "str") (r := false) (by decide +kernel)
  | bool _ => exact kit_ty (a := "bool") (b := "str") (r := false) (by decide +kernel)
  | int _ => exact kit_ty (a := "int") (b := "str") (r := false) (by decide +kernel)
  | str _ => exact kit_ty (a := "str") (b := "str") (r := true) (by decide +kernel)
  | list _ => exact kit_ty (a := "list") (b := "str") (r := false) (by decide +kernel)
  | tuple _ => exact kit_ty (a := "tuple") (b := "str") (r := false) (by decide +kernel)
  | dict _ => exact kit_ty (a := "dict") (b := "str") (r := false) (by decide +kernel)
theorem S_of (z : Str) : S z.cps.toList = z := by cases z; simp [S]
def isNd : PyData → Bool
  | .none => true
  | _ => false
def lenD : PyData → Nat
  | .tuple ds => ds.length
  | _ => 0
def piG (n : Nat) : Nat → List (List Nat) → Sum Nat (List PyData)
  | _, [] => .inr []
  | k, l :: ls => if isNd (pgD n l) = true ∨ 10 < k then .inl k else match piG n (k + 1) ls with
    | .inl j => .inl j
    | .inr gs => .inr (pgD n l :: gs)
theorem piG_ok {n : Nat} : ∀ {ls : List (List Nat)} {k : Nat}, (∀ i l, ls[i]? = some l → isNd (pgD n l) = false ∧ k + i ≤ 10) → piG n k ls = .inr (ls.map (pgD n))
  | [], _, _ => rfl
  | l :: ls, k, h => by
    have h0 := h 0 l rfl
    have h1 := piG_ok (n := n) (ls := ls) (k := k + 1) (fun i m hm => by have := h (i + 1) m (by simpa using hm); exact ⟨this.1, by omega⟩)
    unfold piG
    rw [if_neg (fun y => y.elim (fun z => by rw [h0.1] at z; cases z) (fun z => by omega)), h1]
    rfl
theorem piG_bad {n : Nat} : ∀ {ls : List (List Nat)} {k j : Nat} {l : List Nat}, (∀ i l, i < j → ls[i]? = some l → isNd (pgD n l) = false ∧ k + i ≤ 10) → ls[j]? = some l → (isNd (pgD n l) = true ∨ 10 < k + j) → piG n k ls = .inl (k + j)
  | [], _, _, _, _, e, _ => by simp at e
  | m :: ls, k, 0, l, _, e, h => by
    simp at e
    subst e
    unfold piG
    rw [if_pos (show isNd (pgD n m) = true ∨ 10 < k from h)]; rfl
  | m :: ls, k, j + 1, l, hp, e, h => by
    have h0 := hp 0 m (by omega) rfl
    have h1 := piG_bad (n := n) (ls := ls) (k := k + 1) (j := j) (l := l) (fun i x hi hx => by have := hp (i + 1) x (by omega) (by simpa using hx); exact ⟨this.1, by omega⟩) (by simpa using e) (h.imp id fun z => by omega)
    unfold piG
    rw [if_neg (fun y => y.elim (fun z => by rw [h0.1] at z; cases z) (fun z => by omega)), h1]
    show Sum.inl _ = _
    congr 1
    omega
def piT (a : List Nat) : Sum (Option Int) PyData := match wds 10 a with
  | [] => .inl none
  | l0 :: ls => if isNd (ppD l0) = true then .inl (some 0) else match piG (lenD (ppD l0)) 1 ls with
    | .inl k => .inl (some (k : Int))
    | .inr gs => if gs = [] then .inl (some 1) else .inr (.tuple [ppD l0, .tuple gs])
def piR : PyData → Sum (Option Int) PyData
  | .str z => piT z.cps.toList
  | _ => .inl none
theorem ppD_cases (a : List Nat) : (ppD a = .none) ∨ ∃ ds, ppD a = .tuple ds ∧ ds.length ≤ 6 ∧ tupOnly (.tuple ds) = true := by
  unfold ppD
  split
  · exact .inl rfl
  · rename_i w0 ws ew
    by_cases z : w0 = [112, 111, 115, 116, 115] ∧ postsE (.tuple (dWs ws)) = none
    · rw [if_pos z]
      obtain ⟨ds, e, _, h6⟩ := postsE_ok z.2
      cases e
      exact .inr ⟨_, rfl, h6, to_ws ws⟩
    · rw [if_neg z]; exact .inl rfl
theorem pgD_cases (n : Nat) (a : List Nat) : (pgD n a = .none) ∨ ∃ ds, pgD n a = .tuple ds ∧ tupOnly (.tuple ds) = true := by
  unfold pgD
  split
  · exact .inl rfl
  · rename_i w0 ws ew
    by_cases z : w0.getLast? = some 58 ∧ groupsE n (.tuple [gD w0 ws]) = none
    · rw [if_pos z]
      exact .inr ⟨_, rfl, to_pair _ _ (to_ws ws) (to_oD _)⟩
    · rw [if_neg z]; exact .inl rfl
theorem to_pg (n : Nat) (a : List Nat) : tupOnly (pgD n a) = true := by
  rcases pgD_cases n a with e | ⟨ds, e, h⟩
  · rw [e]; rfl
  · rw [e]; exact h
theorem to_pgs (n : Nat) (ls : List (List Nat)) : tupOnlyAll (ls.map (pgD n)) = true := tupOnlyAll_of fun d hd => by
  obtain ⟨l, _, rfl⟩ := List.mem_map.mp hd
  exact to_pg n l
section
variable {P : Program} {w : World} {K : PySem.W.Frag} {mg : Str → Option Value} {base : Heap}
def spPi (K : PySem.W.Frag) (C : Addr) : Sp := fun vs H Q E => ∃ (st r : Addr) (v : V) (d : PyData), vs = [v] ∧ Dq K st r H v d ∧ (∀ a, d = .str (S a) → a.length ≤ 80000) ∧ (∀ e, piR d = .inr e → ∀ H' x, Same H H' → Dp K H' x e → Q x H') ∧
  (∀ o, piR d = .inl o → ∀ H' dx, Same H H' → H' dx = none → E (.ref C) (some dx) (upd H' dx (.xd [("index", oV o)])))
end
end Pv

namespace Pv
open PySem PySem.Spec PyProof.Rows L2 SX
abbrev sPa : Stmt := topS 18
theorem scPa : FnScope ["instance", "text", "words", "shares", "index", "word", "share"] ["instance", "text"] (defScope sPa) := ⟨rfl, rfl, rfl, by decide +kernel, rfl, by decide +kernel, by decide +kernel⟩
def shW (w : List Nat) : PyData := .tuple (dWs (wds 44 w))
theorem to_sh (w : List Nat) : tupOnly (shW w) = true := to_ws _
theorem to_shs (ls : List (List Nat)) : tupOnlyAll (ls.map shW) = true := tupOnlyAll_of fun d hd => by
  obtain ⟨l, _, rfl⟩ := List.mem_map.mp hd
  exact to_sh l
def badW (gs : List Gp) (k : Nat) (w : List Nat) : Bool := match gs[k]? with
  | some g => !shareD g (shW w)
  | none => true
def fbi (gs : List Gp) : Nat → List (List Nat) → Option Nat
  | _, [] => none
  | k, w :: ws => if badW gs k w = true then some k else fbi gs (k + 1) ws
theorem fbi_none {gs : List Gp} : ∀ {ws : List (List Nat)} {k : Nat}, (∀ i w, ws[i]? = some w → badW gs (k + i) w = false) → fbi gs k ws = none
  | [], _, _ => rfl
  | w :: ws, k, h => by
    have h0 := h 0 w rfl
    unfold fbi
    rw [if_neg (by rw [show badW gs k w = false from h0]; exact Bool.false_ne_true)]
    exact fbi_none fun i x hx => by have := h (i + 1) x (by simpa using hx); rwa [show k + 1 + i = k + (i + 1) by omega]
theorem fbi_at {gs : List Gp} : ∀ {ws : List (List Nat)} {k j : Nat} {w : List Nat}, (∀ i w, i < j → ws[i]? = some w → badW gs (k + i) w = false) → ws[j]? = some w → badW gs (k + j) w = true → fbi gs k ws = some (k + j)
  | [], _, _, _, _, e, _ => by simp at e
  | x :: ws, k, 0, w, _, e, h => by
    simp at e
    subst e
    unfold fbi
    rw [if_pos (show badW gs k x = true from h)]; rfl
  | x :: ws, k, j + 1, w, hp, e, h => by
    have h0 := hp 0 x (by omega) rfl
    unfold fbi
    rw [if_neg (by rw [show badW gs k x = false from h0]; exact Bool.false_ne_true), fbi_at (j := j) (w := w) (fun i y hi hy => by have := hp (i + 1) y (by omega) (by simpa using hy); rwa [show k + 1 + i = k + (i + 1) by omega]) (by simpa using e) (by rwa [show k + 1 + j = k + (j + 1) by omega])]
    congr 1
    omega
def paT (cs : List Int) (gs : List Gp) (a : List Nat) : Sum (Option Int) PyData := match fbi gs 0 (wds 32 a) with
  | some k => .inl (some (k : Int))
  | none => if isAD cs gs (.tuple ((wds 32 a).map shW)) = true then .inr (.tuple ((wds 32 a).map shW)) else .inl (some ((wds 32 a).length : Int))
def paR (cs : List Int) (gs : List Gp) : PyData → Sum (Option Int) PyData
  | .str z => paT cs gs z.cps.toList
  | _ => .inl none
section
variable {P : Program} {w : World} {K : PySem.W.Frag} {mg : Str → Option Value} {base : Heap}
def spPa (K : PySem.W.Frag) (C : Addr) : Sp := fun vs H Q E => ∃ (st r i : Addr) (v : V) (cs : List Int) (gs : List Gp) (d : PyData), vs = [.ref i, v] ∧ Dp K H (.ref i) (dInst cs gs) ∧ InsOk cs gs ∧ Dq K st r H v d ∧ (∀ a, d = .str (S a) → a.length ≤ 80000) ∧ (∀ e, paR cs gs d = .inr e → ∀ H' x, Same H H' → Dp K H' x e → Q x H') ∧
  (∀ o, paR cs gs d = .inl o → ∀ H' dx, Same H H' → H' dx = none → E (.ref C) (some dx) (upd H' dx (.xd [("index", oV o)])))
set_option maxHeartbeats 4000000 in
theorem ok_Pa {f fPs fIs fIA : Addr} {fd fdPs fdIs fdIA : FuncData} (F : Fun K "parse_assignment" "parse_assignment" sPa f fd)
    (FPs : Fun K "parse_numbers" "parse_numbers" sPs fPs fdPs) (bPs : Binds K fdPs ["words"] []) (gPs : mg "parse_numbers" = some (.ref fPs)) (GPs : FnOk P w K mg base CX0 2 fPs fdPs ["words"] (spPs K))
    (FIs : Fun K "is_share" "is_share" sIs fIs fdIs) (bIs : Binds K fdIs ["instance", "group", "share"] []) (gIs : mg "is_share" = some (.ref fIs)) (GIs : FnOk P w K mg base CX0 4 fIs fdIs ["instance", "group", "share"] (spIs K))
    (FIA : Fun K "is_assignment" "is_assignment" sIA fIA fdIA) (bIA : Binds K fdIA ["instance", "value"] []) (gIA : mg "is_assignment" = some (.ref fIA)) (GIA : FnOk P w K mg base CX0 4 fIA fdIA ["instance", "value"] (spIsA K))
    {cBT : Addr} {fiBT : Addr} {fdiBT : FuncData} (gBT : mg "BadText" = some (.ref cBT)) (XBT : XF K cBT fiBT "index") (GiBT : FnOk P w K mg base CX0 1 fiBT fdiBT ["self", "index"] (spI1 cBT "index")) (biBT : Binds K fdiBT ["self", "index"] [])
    (m_str : mg "str" = none) (m_isinstance : mg "isinstance" = none) (m_enumerate : mg "enumerate" = none) (m_len : mg "len" = none) (m_tuple : mg "tuple" = none) :
    FnOk P w K mg base (L2.CX P w) 7 f fd ["instance", "text"] (spPa K cBT) := by
  refine F.okX scPa (fun vs H Q E h => ?_) (fun cdv A outer s H vs Q E hr h => ?_)
  · obtain ⟨st, r, i, v, cs, gs, d, rfl, _⟩ := h; rfl
  · obtain ⟨st, r, i, v, cs, gs, d, rfl, hI, ok, hv, hsz, q⟩ := h
    refine ⟨_, pss_cons (ps_if (pt_not (pt_val (pe_callB call_isi (by rfl) m_isinstance (by decide +kernel) (pa_cons (pv 1) (pa_cons (pe_bltn (v := .ty "str") (by rfl) m_str (by decide +kernel) rfl) pa_nil)))))
        (pss_one (ps_raise rfl (takes_of rfl rfl rfl rfl) (pmk_oex XBT.T XBT.iC XBT.tI GiBT (hr.mono (by omega)) biBT .nil pass0 (by rfl) gBT (pa_cons (pe_non) pa_nil)))) pss_nil)
      (pss_cons (ps_set (i := 2) scPa.nd rfl (.inl rfl) (pe_m1 PySem.F.slot_str_split PySem.F.type_str_split mt_splitQ (pv 1) (pe_str)))
      (pss_cons (ps_set (i := 3) scPa.nd rfl (.inl rfl) (pe_lst (pa_nil)))
      (pss_cons (ps_for (passes_of rfl) rfl (pi_enum (by rfl) m_enumerate (pa_cons (pv 2) pa_nil)) (pg_tup rfl (pgs_cons (pg_name (i := 4) scPa.nd rfl (.inl rfl)) (pgs_cons (pg_name (i := 5) scPa.nd rfl (.inl rfl)) pgs_nil)))
        (pss_cons (ps_set (i := 6) scPa.nd rfl (.inl rfl) (pe_call GPs (hr.mono (by omega)) (by rfl) gPs FPs.kp bPs .nil pass0 (pa_cons (pe_m1 PySem.F.slot_str_split PySem.F.type_str_split mt_splitQ (pv 5) (pe_str)) pa_nil)))
        (pss_cons (ps_if (PW.pt (pw_or (pt_cmpR op_ge (pv 4) (pe_callB call_lenQ (by rfl) m_len PySem.boot_len (pa_cons (pe_ix ix_tup (pv 0) (pe_int) (fun _ _ => rfl)) pa_nil)) (nomark _)) (pw_or1 (pt_not (pt_val (pe_call GIs (hr.mono (by omega)) (by rfl) gIs FIs.kp bIs .nil pass0 (pa_cons (pv 0) (pa_cons (pv 4) (pa_cons (pv 6) pa_nil)))))))))
          (pss_one (ps_raise rfl (takes_of rfl rfl rfl rfl) (pmk_oex XBT.T XBT.iC XBT.tI GiBT (hr.mono (by omega)) biBT .nil pass0 (by rfl) gBT (pa_cons (pv 4) pa_nil)))) pss_nil)
        (pss_one (ps_expr (pe_bm PySem.F.plainAttrs_list PySem.F.slot_list_append PySem.F.type_list_append mt_append (pv 3) (pa_cons (pv 6) pa_nil)))))))
      (pss_cons (ps_if (pt_not (pt_val (pe_call GIA (hr.mono (by omega)) (by rfl) gIA FIA.kp bIA .nil pass0 (pa_cons (pv 0) (pa_cons (pe_callTy call_tupQ (by rfl) m_tuple (by decide +kernel) (pa_cons (pv 3) pa_nil)) pa_nil)))))
        (pss_one (ps_raise rfl (takes_of rfl rfl rfl rfl) (pmk_oex XBT.T XBT.iC XBT.tI GiBT (hr.mono (by omega)) biBT .nil pass0 (by rfl) gBT (pa_cons (pe_callB call_lenQ (by rfl) m_len PySem.boot_len (pa_cons (pv 2) pa_nil)) pa_nil)))) pss_nil)
      (pss_one (ps_ret (pe_callTy call_tupQ (by rfl) m_tuple (by decide +kernel) (pa_cons (pv 3) pa_nil)))))))), ?_⟩
    obtain ⟨q1, q2⟩ := q
    obtain ⟨_, ca, ga, xs, ei, hi, hc, hgt, hgs⟩ := inst_open hI
    cases ei
    have lxs : xs.length = gs.length := by have := DpAll.len hgs; rwa [List.length_map] at this
    refine ⟨v, rfl, v, .ty "str", _, _, _, rfl, .ty _, hv.ty, kit_strD d, _, rfl, ?_⟩
    cases hd : isStrD d with
    | false =>
      refine iteT (mkO1 fun dx nd => ?_)
      exact q2 none (by cases d <;> first | rfl | cases hd) _ dx (Same.refl _) nd
    | true =>
      refine iteF ?_
      cases d with
      | str z => ?_
      | _ => cases hd
      cases hv
      obtain ⟨a, rfl⟩ : ∃ a, z = S a := ⟨_, (S_of z).symm⟩
      have hsz : a.length ≤ 80000 := hsz a rfl
      have hl6 : (S a).length + 2 ≤ sizeLine := by rw [S_len]; exact small6 (by omega)
      refine ⟨.str (S a), rfl, ⟨_, rfl⟩, _, _, rfl, rfl, rfl, hl6, fun p np => ?_⟩
      rw [show Str.ofString " " = S [32] from rfl, split_wds (by decide)]
      have wl := wds_len 32 a
      have we : ∀ w ∈ wds 32 a, w.length ≤ 80000 := fun w hw => by have := wds_each hw; omega
      have eR : paR cs gs (.str (S a)) = paT cs gs a := rfl
      unfold paT at eR
      obtain ⟨ws, ew⟩ : ∃ ws, wds 32 a = ws := ⟨_, rfl⟩
      rw [ew] at eR wl we ⊢
      have s1 := sameNew (o := .lst ((ws.map S).map V.str)) np
      refine ⟨(show (0 : Nat) ≤ sizeLine by decide), fun Ls nLs => ?_⟩
      have s3 := s1.trans (sameNew (o := .lst []) nLs)
      have hp1 : (upd H p (.lst ((ws.map S).map V.str))) p = some (.lst ((ws.map S).map V.str)) := upd_same
      obtain ⟨H1, eH1⟩ : ∃ H1, upd H p (.lst ((ws.map S).map V.str)) = H1 := ⟨_, rfl⟩
      rw [eH1] at s1 nLs s3 hp1 ⊢
      have eL : ∀ H', Same H1 H' → SqL K H' p ((ws.map S).map V.str) := fun H' s' => SqL.of (s' _ _ hp1)
      refine ⟨.ref p, rfl, p, _, rfl, eL _ (sameNew nLs), for_it (walk_enum (K := K) (a := p) (xs := (ws.map S).map V.str))
        (fun j σ H3 => ∃ (y4 y5 y6 : Option V) (vs : List V), σ = [some (.ref i), some (.str (S a)), some (.ref p), some (.ref Ls), y4, y5, y6] ∧ Same H1 H3 ∧ H3 Ls = some (.lst vs) ∧ DpAll K H3 vs ((ws.take j).map shW) ∧ ∀ k w, k < j → ws[k]? = some w → badW gs (0 + k) w = false)
        ⟨none, none, none, [], rfl, sameNew nLs, upd_same, .nil, fun i l h => by omega⟩ (fun j σ H3 _ h => by obtain ⟨_, _, _, _, _, s9, _⟩ := h; exact eL _ s9) ?_ ?_⟩
      · rintro j u σ H3 H4 hlt ⟨y4, y5, y6, vs, rfl, s5, e5, hvs, hno⟩ ⟨T, x, y, rfl, nT, rfl, hx, hy⟩
        have hx : some (V.int (j : Nat)) = some x := hx
        cases hx
        have hy : ((ws.map S).map V.str)[j]? = some y := hy
        rw [List.getElem?_map, List.getElem?_map] at hy
        obtain ⟨z1, hz1, rfl⟩ := Option.map_eq_some_iff.mp hy
        obtain ⟨w, hw, rfl⟩ := Option.map_eq_some_iff.mp hz1
        have hj := (List.getElem?_eq_some_iff.mp hw).1
        have sT := sameNew (o := .tup [.int ((j : Nat) : Int), .str (S w)]) nT
        have hwl := we w (List.mem_of_getElem? hw)
        have w4 := wds_len 44 w
        have hl7 : (S w).length + 2 ≤ sizeLine := by rw [S_len]; exact small6 (by omega)
        refine ⟨T, _, rfl, .inl (.inl upd_same), rfl, _, _, rfl, _, _, rfl, rfl, ?_⟩
        refine ⟨.str (S w), rfl, ⟨_, rfl⟩, _, _, rfl, rfl, rfl, hl7, fun p5 np5 => ?_⟩
        rw [show Str.ofString "," = S [44] from rfl, split_wds (by decide)]
        have sp5 := sT.trans (sameNew (o := .lst (((wds 44 w).map S).map V.str)) np5)
        refine ⟨p5, wds 44 w, rfl, SqL.of upd_same, by omega, fun b hb => by have := wds_each hb; omega, fun H6 t6 s6 ht6 => ?_⟩
        have s36 := sp5.trans s6
        have s16 := s5.trans s36
        have s06 := s1.trans s16
        have hD6 : Dp K H6 (.ref t6) (shW w) := .tup (.inl (.inl ht6)) (dp_ws _)
        have hi6 := sqS s06 hi
        have hg6 := sqS s06 hgt
        have hI6 := (TupK.of s06).dp _ _ (to_dInst _ _) hI
        refine ⟨.int (j : Nat), rfl, .ref i, rfl, i, _, 1, .ref ga, rfl, rfl, hi6, atI_nat (j := 1) rfl, ga, _, rfl, .inr hg6, _, _, rfl, rfl, _, rfl, ?_⟩
        have fail : ∀ H7, Same H6 H7 → badW gs (0 + j) w = true → ∀ dx, H7 dx = none → E (.ref cBT) (some dx) (upd H7 dx (.xd [("index", .int ((j : Nat) : Int))])) := fun H7 s7 hb dx nd => by
          have eB := fbi_at hno hw hb
          rw [eB, Nat.zero_add] at eR
          exact q2 (some ((j : Nat) : Int)) eR _ dx (s06.trans s7) nd
        refine ite2 (fun h1 => ?_) (fun h1 => ?_)
        · have h1 : gs.length ≤ j := by have := of_decide_eq_true h1; omega
          refine ⟨.int (j : Nat), rfl, mkO1 fun dx nd => ?_⟩
          refine fail _ (Same.refl _) ?_ dx nd
          unfold badW
          rw [Nat.zero_add, List.getElem?_eq_none h1]
        · have h1 : j < gs.length := by
            by_cases y : j < gs.length
            · exact y
            · exact absurd (decide_eq_true (by omega)) h1
          have hgp : gs[j]? = some gs[j] := List.getElem?_eq_getElem h1
          refine ⟨.ref i, rfl, .int (j : Nat), rfl, .ref t6, rfl, t6, t6, i, j, .ref t6, cs, gs, shW w, gs[j], rfl, hI6, ok, hgp, Dq.of_dp (to_sh w) hD6, fun H7 s7 => ⟨_, rfl, ?_⟩⟩
          cases hs : shareD gs[j] (shW w) with
          | false =>
            refine iteT ⟨.int (j : Nat), rfl, mkO1 fun dx nd => ?_⟩
            refine fail _ s7 ?_ dx nd
            unfold badW
            rw [Nat.zero_add, hgp]
            show (!shareD gs[j] (shW w)) = true
            rw [hs]; rfl
          | true =>
            refine iteF ?_
            have e7 := (s36.trans s7) _ _ e5
            have lv := DpAll.len hvs
            rw [List.length_map, List.length_take] at lv
            refine ⟨.ref Ls, rfl, .inl ⟨rfl, _, SqL.of e7⟩, .ref t6, rfl, Ls, _, _, rfl, rfl, e7, small (by omega), ?_⟩
            have tk := (TupK.of (s36.trans s7)).trans (TupK.put (o := .lst (vs ++ [.ref t6])) e7)
            refine ⟨_, _, _, _, rfl, samePut (s16.trans s7) nLs, upd_same, ?_, fun k x' hk hx' => ?_⟩
            · rw [take_snoc hw, List.map_append]
              exact DpAll.snoc (tk.dpAll _ _ (to_shs _) hvs) (((TupK.of s7).trans (TupK.put e7)).dp _ _ (to_sh _) hD6)
            · by_cases y : k < j
              · exact hno k x' y hx'
              · have : k = j := by omega
                subst this
                rw [hw] at hx'
                cases hx'
                unfold badW
                rw [Nat.zero_add, hgp]
                show (!shareD gs[k] (shW w)) = false
                rw [hs]; rfl
      · rintro σ H3 ⟨y4, y5, y6, vs, rfl, s5, e5, hvs, hno⟩
        have lw : ((ws.map S).map V.str).length = ws.length := by rw [List.length_map, List.length_map]
        rw [lw] at hvs hno
        have eB := fbi_none (gs := gs) (k := 0) (ws := ws) (fun k x hx => hno k x (List.getElem?_eq_some_iff.mp hx).1 hx)
        rw [eB] at eR
        dsimp only at eR
        rw [List.take_length] at hvs
        have s05 := s1.trans s5
        have h6 := ok.c6
        have h10 := ok.g10
        refine ⟨.ref i, rfl, .ref Ls, rfl, Ls, _, rfl, .inl ⟨SqL.of e5, fun T nT => ?_⟩⟩
        have sT := sameNew (o := .tup vs) nT
        have hT : Dp K (upd H3 T (.tup vs)) (.ref T) (.tuple (ws.map shW)) := .tup (.inl (.inl upd_same)) ((TupK.of sT).dpAll _ _ (to_shs _) hvs)
        have tT : tupOnly (.tuple (ws.map shW)) = true := by simpa only [tupOnly] using to_shs ws
        refine ⟨T, T, i, .ref T, cs, gs, .tuple (ws.map shW), rfl, (TupK.of (s05.trans sT)).dp _ _ (to_dInst _ _) hI, Dq.of_dp tT hT, by omega, by omega, fun g hg => ⟨by have := (ok.gp g hg).1; omega, (ok.gp g hg).2.1⟩, fun g hg => by have := (ok.gp g hg).1; omega, fun H7 s7 => ⟨_, rfl, ?_⟩⟩
        cases ha : isAD cs gs (.tuple (ws.map shW)) with
        | false =>
          rw [ha, if_neg Bool.false_ne_true] at eR
          refine iteT ⟨.ref p, rfl, p, _, rfl, .inl (eL _ (s5.trans (sT.trans s7))), mkO1 fun dx nd => ?_⟩
          rw [lw]
          exact q2 _ eR _ dx (s05.trans (sT.trans s7)) nd
        | true =>
          rw [ha, if_pos rfl] at eR
          refine iteF ⟨.ref Ls, rfl, Ls, _, rfl, .inl ⟨SqL.of ((sT.trans s7) _ _ e5), fun T2 n2 => ?_⟩⟩
          have s2 := sameNew (o := .tup vs) n2
          exact q1 _ eR _ _ ((s05.trans (sT.trans s7)).trans s2) (.tup (.inl (.inl upd_same)) ((TupK.of ((sT.trans s7).trans s2)).dpAll _ _ (to_shs _) hvs))
end
end Pv

namespace Pv
open PySem PySem.Spec PyProof.Rows L2 SX
/-! how long a run of digits is in a text; what a word is to the law -/
def RB (p : Nat → Bool) (B : Nat) (a : List Nat) : Prop := ∀ i n, ((a.drop i).take n).all p = true → ((a.drop i).take n).length ≤ B
abbrev dg (c : Nat) : Bool := decide (48 ≤ c) && decide (c ≤ 57)
abbrev nl (c : Nat) : Bool := !decide (c = 10)
theorem digL_dg (a : List Nat) : digL a = a.all dg := rfl
section
variable {p : Nat → Bool}
theorem RB.mono {B C : Nat} {a : List Nat} (h : RB p B a) (k : B ≤ C) : RB p C a := fun i n hd => Nat.le_trans (h i n hd) k
theorem RB.all {B : Nat} {a : List Nat} (h : RB p B a) (hd : a.all p = true) : a.length ≤ B := by
  have := h 0 a.length
  rw [List.drop_zero, List.take_length] at this
  exact this hd
theorem RB.len {B : Nat} {a : List Nat} (h : a.length ≤ B) : RB p B a := fun i n _ => by rw [List.length_take, List.length_drop]; omega
theorem RB.app {B C : Nat} {a b : List Nat} (h : RB p B a) (k : RB p C b) : RB p (B + C) (a ++ b) := by
  intro i n hd
  rw [List.drop_append, List.take_append, List.all_append, Bool.and_eq_true] at hd
  rw [List.drop_append, List.take_append, List.length_append]
  have h1 := h i n hd.1
  have h2 := k _ _ hd.2
  omega
theorem RB.sub {B : Nat} {a u b v : List Nat} (h : RB p B a) (e : a = u ++ (b ++ v)) : RB p B b := by
  intro i n hd
  have key : (a.drop (u.length + i)).take (min n (b.length - i)) = (b.drop i).take n := by
    rw [e, List.drop_append, List.drop_eq_nil_of_le (by omega), List.nil_append, show u.length + i - u.length = i by omega, List.drop_append, List.take_append_of_le_length (by rw [List.length_drop]; omega)]
    by_cases z : n ≤ b.length - i
    · rw [Nat.min_eq_left z]
    · rw [Nat.min_eq_right (by omega), List.take_of_length_le (by rw [List.length_drop]; omega), List.take_of_length_le (by rw [List.length_drop]; omega)]
  have := h (u.length + i) (min n (b.length - i))
  rw [key] at this
  exact this hd
theorem RB.take {B : Nat} {a : List Nat} (h : RB p B a) (k : Nat) : RB p B (a.take k) := h.sub (u := []) (v := a.drop k) (by simp)
theorem RB.drop {B : Nat} {a : List Nat} (h : RB p B a) (k : Nat) : RB p B (a.drop k) := h.sub (u := a.take k) (v := []) (by simp)
theorem RB.sep {B : Nat} {a b : List Nat} {c : Nat} (h : RB p B a) (k : RB p B b) (hc : p c = false) : RB p B (a ++ (c :: b)) := by
  intro i n hd
  rw [List.drop_append, List.take_append, List.all_append, Bool.and_eq_true] at hd
  rw [List.drop_append, List.take_append, List.length_append]
  by_cases z : i ≤ a.length
  · have e0 : i - a.length = 0 := by omega
    rw [e0, List.drop_zero] at hd ⊢
    cases em : n - (a.drop i).length with
    | zero => rw [List.take_zero, List.length_nil, Nat.add_zero]; exact h i n hd.1
    | succ m =>
      rw [em, List.take_succ_cons, List.all_cons, hc] at hd
      exact absurd hd.2 Bool.false_ne_true
  · obtain ⟨j, ej⟩ : ∃ j, i - a.length = j + 1 := ⟨i - a.length - 1, by omega⟩
    rw [ej, List.drop_succ_cons] at hd ⊢
    have h2 := k _ _ hd.2
    rw [List.drop_eq_nil_of_le (by omega)] at h2 ⊢
    simp at h2 ⊢
    exact h2
theorem RB.join {B : Nat} {c : Nat} (hc : p c = false) : ∀ {l : List (List Nat)}, (∀ w ∈ l, RB p B w) → RB p B (TL.joinL [c] l)
  | [], _ => RB.len (by simp [TL.joinL])
  | [w], h => by simpa [TL.joinL] using h w (List.mem_cons_self ..)
  | w :: q :: l, h => by
    have h1 := h w (List.mem_cons_self ..)
    have h2 := RB.join hc (l := q :: l) fun r hr => h r (List.mem_cons_of_mem _ hr)
    exact h1.sep h2 hc
end
theorem spl_in (c : Nat) : ∀ (l acc : List Nat), ∀ w ∈ TL.spl [c] 0 acc l, ∃ u v, acc ++ l = u ++ (w ++ v)
  | [], acc => by rw [TL.spl_nil]; intro w hw; simp at hw; exact ⟨[], [], by simp [hw]⟩
  | d :: r, acc => by
    intro w hw
    by_cases h : TL.pre [c] (d :: r) = true
    · rw [TL.spl_hit h] at hw
      rcases List.mem_cons.mp hw with rfl | hw
      · exact ⟨[], d :: r, by simp⟩
      · obtain ⟨u, v, e⟩ := spl_in c r [] w hw
        rw [List.nil_append] at e
        exact ⟨acc ++ (d :: u), v, by rw [e]; simp⟩
    · rw [TL.spl_miss (by simpa using h)] at hw
      obtain ⟨u, v, e⟩ := spl_in c r (acc ++ [d]) w hw
      exact ⟨u, v, by rw [← e]; simp⟩
theorem spl_not (c : Nat) : ∀ (l acc : List Nat), c ∉ acc → ∀ w ∈ TL.spl [c] 0 acc l, c ∉ w
  | [], acc, h0 => by rw [TL.spl_nil]; intro w hw; simp at hw; rw [hw]; exact h0
  | d :: r, acc, h0 => by
    intro w hw
    by_cases h : TL.pre [c] (d :: r) = true
    · rw [TL.spl_hit h] at hw
      rcases List.mem_cons.mp hw with rfl | hw
      · exact h0
      · exact spl_not c r [] (by simp) w hw
    · rw [TL.spl_miss (by simpa using h)] at hw
      refine spl_not c r (acc ++ [d]) (fun e => ?_) w hw
      rcases List.mem_append.mp e with e | e
      · exact h0 e
      · rw [List.mem_singleton] at e
        rw [pre_one] at h
        exact h (decide_eq_true e.symm)
theorem wds_not {c : Nat} {a w : List Nat} (hw : w ∈ wds c a) : c ∉ w := spl_not c a [] (by simp) w hw
theorem RB.word {p : Nat → Bool} {B c : Nat} {a w : List Nat} (h : RB p B a) (hw : w ∈ wds c a) : RB p B w := by
  obtain ⟨u, v, e⟩ := spl_in c a [] w hw
  exact h.sub (by rwa [List.nil_append] at e)
theorem nl_all {w : List Nat} (h : 10 ∉ w) : w.all nl = true := List.all_eq_true.mpr fun c hc => by
  have : ¬ c = 10 := fun e => h (e ▸ hc)
  simp [nl, this]
theorem RB.line {B : Nat} {a w : List Nat} (h : RB nl B a) (hw : w ∈ wds 10 a) : w.length ≤ B := (h.word hw).all (nl_all (wds_not hw))
theorem joinL_sum {c : Nat} : ∀ {l : List (List Nat)}, (TL.joinL [c] l).length + 1 ≤ (l.map (·.length)).sum + l.length + 1 ∧ (l ≠ [] → (TL.joinL [c] l).length + 1 = (l.map (·.length)).sum + l.length)
  | [] => by simp [TL.joinL]
  | [w] => by simp [TL.joinL]
  | w :: q :: l => by
    have h := (joinL_sum (c := c) (l := q :: l)).2 (by simp)
    simp only [TL.joinL, List.length_append, List.map_cons, List.sum_cons, List.length_cons, List.length_nil] at h ⊢
    exact ⟨by omega, fun _ => by omega⟩
theorem spl_back (c : Nat) : ∀ (l acc : List Nat), TL.joinL [c] (TL.spl [c] 0 acc l) = acc ++ l
  | [], acc => by rw [TL.spl_nil]; simp [TL.joinL]
  | d :: r, acc => by
    by_cases h : TL.pre [c] (d :: r) = true
    · rw [TL.spl_hit h]
      have ih := spl_back c r []
      have hd : d = c := by rw [pre_one] at h; exact of_decide_eq_true h
      simp only [List.length_cons, List.length_nil]
      obtain ⟨w, ws, e⟩ : ∃ w ws, TL.spl [c] 0 [] r = w :: ws := wds_cons c r
      rw [show 0 + 1 - 1 = 0 from rfl, e]
      rw [e, List.nil_append] at ih
      show acc ++ ([c] ++ TL.joinL [c] (w :: ws)) = _
      rw [ih, hd]; simp
    · rw [TL.spl_miss (by simpa using h), spl_back c r (acc ++ [d])]; simp
theorem wds_back (c : Nat) (a : List Nat) : TL.joinL [c] (wds c a) = a := spl_back c a []
theorem sum_set_le {l : List (List Nat)} {j : Nat} {o : List Nat} : ((l.set j o).map (·.length)).sum ≤ (l.map (·.length)).sum + o.length := by
  induction l generalizing j with
  | nil => simp
  | cons w l ih =>
    cases j with
    | zero => simp only [List.set_cons_zero, List.map_cons, List.sum_cons]; omega
    | succ j => have := ih (j := j); simp only [List.set_cons_succ, List.map_cons, List.sum_cons]; omega
theorem join_set_len (c j : Nat) (a o : List Nat) : (TL.joinL [c] ((wds c a).set j o)).length ≤ a.length + o.length := by
  have h1 := (joinL_sum (c := c) (l := (wds c a).set j o)).2 (by
    obtain ⟨w, ws, e⟩ := wds_cons c a
    intro z
    have := congrArg List.length z
    rw [List.length_set, e] at this
    simp at this)
  have h2 := (joinL_sum (c := c) (l := wds c a)).2 (by obtain ⟨w, ws, e⟩ := wds_cons c a; rw [e]; simp)
  rw [wds_back] at h2
  have h3 := sum_set_le (l := wds c a) (j := j) (o := o)
  rw [List.length_set] at h1
  omega
/-! numbers -/
def lnO (a : List Nat) : Int := if a = [] ∨ digL a = false then -1 else if a.head? = some 48 ∧ a ≠ [48] then -1 else (NumText.digitsVal a : Nat)
theorem val_ge : ∀ {cs : List Nat} (acc : Nat), (cs.foldl (fun acc c => acc * 10 + (c - 48)) acc) ≥ acc * 10 ^ cs.length
  | [], acc => by simp
  | c :: cs, acc => by
    rw [List.foldl_cons, List.length_cons, Nat.pow_succ]
    have h := val_ge (cs := cs) (acc * 10 + (c - 48))
    have h2 : acc * (10 ^ cs.length * 10) ≤ (acc * 10 + (c - 48)) * 10 ^ cs.length := by
      rw [Nat.add_mul, Nat.mul_comm (10 ^ cs.length) 10, ← Nat.mul_assoc]
      exact Nat.le_add_right _ _
    exact Nat.le_trans h2 h
theorem val_big {a : List Nat} (hd : digL a = true) (h0 : a.head? ≠ some 48) (hl : 30 < a.length) : 10 ^ 30 ≤ NumText.digitsVal a := by
  cases a with
  | nil => simp at hl
  | cons c cs =>
    have hc := digL_iff.mp hd c (List.mem_cons_self ..)
    have h0 : c ≠ 48 := fun e => h0 (by rw [e]; rfl)
    have h := val_ge (cs := cs) (0 * 10 + (c - 48))
    have h2 : 1 * 10 ^ cs.length ≤ (0 * 10 + (c - 48)) * 10 ^ cs.length := Nat.mul_le_mul_right _ (by omega)
    have h3 : 10 ^ 30 ≤ 10 ^ cs.length := Nat.pow_le_pow_right (by decide) (by rw [List.length_cons] at hl; omega)
    have : NumText.digitsVal (c :: cs) = cs.foldl (fun acc c => acc * 10 + (c - 48)) (0 * 10 + (c - 48)) := rfl
    rw [this]
    omega
theorem lnO_ge (a : List Nat) : -1 ≤ lnO a := by
  unfold lnO
  split
  · omega
  · split <;> omega
theorem pn_ln (a : List Nat) : pnO a = (if 0 ≤ lnO a ∧ a.length ≤ 30 then some (lnO a) else none) := by
  unfold pnO lnO
  by_cases h1 : a ≠ [] ∧ digL a = true
  · have h1' : ¬ (a = [] ∨ digL a = false) := fun e => e.elim h1.1 (fun e => by rw [h1.2] at e; cases e)
    rw [if_pos h1, if_neg h1']
    by_cases h2 : a.head? = some 48 ∧ a ≠ [48]
    · have h2' : a.head? = some 48 ∧ 1 < a.length := ⟨h2.1, by
        cases a with
        | nil => simp at h2
        | cons c cs =>
          have : c = 48 := by simpa using h2.1
          subst this
          cases cs with
          | nil => simp at h2
          | cons _ _ => simp⟩
      rw [if_pos h2', if_pos h2]
      split
      · rw [if_neg (fun e => by omega)]
      · rw [if_neg (fun e => by omega)]
    · have h2' : ¬ (a.head? = some 48 ∧ 1 < a.length) := fun e => h2 ⟨e.1, fun z => by rw [z] at e; simp at e⟩
      rw [if_neg h2', if_neg h2]
      by_cases h3 : 30 < a.length
      · rw [if_pos h3, if_neg (fun e => by omega)]
      · rw [if_neg h3, if_pos ⟨by omega, by omega⟩]
  · have h1' : a = [] ∨ digL a = false := by
      by_cases e : a = []
      · exact .inl e
      · exact .inr (by cases z : digL a with
          | false => rfl
          | true => exact absurd ⟨e, z⟩ h1)
    rw [if_neg h1, if_pos h1', if_neg (fun e => by omega)]
/-- short words and the law's integers say the same of a bound -/
theorem ln_long {a : List Nat} (h : 30 < a.length) (h0 : 0 ≤ lnO a) : (10 : Int) ^ 30 ≤ lnO a := by
  unfold lnO at h0 ⊢
  by_cases h1 : a = [] ∨ digL a = false
  · rw [if_pos h1] at h0; omega
  · rw [if_neg h1] at h0 ⊢
    by_cases h2 : a.head? = some 48 ∧ a ≠ [48]
    · rw [if_pos h2] at h0; omega
    · rw [if_neg h2]
      have hd : digL a = true := by
        cases z : digL a with
        | true => rfl
        | false => exact absurd (.inr z) h1
      have hh : a.head? ≠ some 48 := fun e => h2 ⟨e, fun z => by rw [z] at h; simp at h⟩
      have := val_big hd hh h
      have e : ((10 : Int) ^ 30) = ((10 ^ 30 : Nat) : Int) := by decide
      rw [e]
      exact Int.ofNat_le.mpr this
theorem pn_in {a : List Nat} {lo hi : Int} (h0 : 0 ≤ lo) (h1 : hi ≤ 10 ^ 12) : (∃ i, pnO a = some i ∧ lo ≤ i ∧ i ≤ hi) ↔ (lo ≤ lnO a ∧ lnO a ≤ hi) := by
  rw [pn_ln]
  constructor
  · rintro ⟨i, e, k1, k2⟩
    split at e
    · cases e; exact ⟨k1, k2⟩
    · cases e
  · rintro ⟨k1, k2⟩
    have hl : a.length ≤ 30 := by
      by_cases z : a.length ≤ 30
      · exact z
      · have := ln_long (a := a) (by omega) (by omega)
        omega
    rw [if_pos ⟨by omega, hl⟩]
    exact ⟨_, rfl, k1, k2⟩
theorem pn_eq {a : List Nat} {lo hi : Int} (h0 : 0 ≤ lo) (h1 : hi ≤ 10 ^ 12) (h : lo ≤ lnO a ∧ lnO a ≤ hi) : pnO a = some (lnO a) := by
  obtain ⟨i, e, _⟩ := (pn_in h0 h1).mpr h
  rw [e]
  rw [pn_ln] at e
  split at e
  · cases e; rfl
  · cases e
end Pv

/-! set(l) of a list of ints, as cr_setT has it for a tuple -/
namespace Pv
open PySem PySem.Spec PyProof.Rows L2
/-- a set just made -/
abbrev bareSet (w : World) : Obj := { cls := .type "set", dict := none, data := .set #[] 0 (.fresh 0 0 (!w.params.followText "set-order")) }
section
variable {P : Program} {w : World} {A : Around} {E : Value → Shared → Prop}
/-- what is left behind: the set of the ints ns at S, all else as it was -/
def SetLaid (w : World) (s s' : Shared) (S : Addr) (ns : List Int) : Prop :=
  ∃ h' tk c, s' = { s with heap := h', toks := tk } ∧ SetR w h' S (fun j => decide (j ∈ ns)) c ∧ c ≤ ns.length ∧ ∀ b o, b ≠ S → s.heap.get? b = some o → h'.get? b = some o
set_option maxHeartbeats 3200000 in
theorem init_setL {s : Shared} {S l : Addr} {its : Array Value} {ns : List Int} (hh : A.handled = none) (hS : s.heap.get? S = some (bareSet w)) (hl : s.heap.IsList l its) (hn : S ≠ l) (hi : IntsAre its.toList ns) (hb : ns.length + 1 < scanBound) :
    codeAny (model P w) A (.call (.builtin "set.__init__") ⟨[.ref S, .ref l], []⟩) (wants (fun r s' => r = .none ∧ SetLaid w s s' S ns) E) s := by
  have hT : s.TypeIs (.ref S) "set" := ⟨_, hS, rfl⟩
  have hz : its.size = ns.length := by have q := IntsAre.length hi; rw [Array.length_toList] at q; exact q
  refine codeAny_call_builtin PySem.F.called_set.init.plain PySem.F.entry_set_init (check_set_init_1 hT ?_)
  obtain ⟨⟨oc, od, ox, os⟩, hol, hcl, nl, hdl⟩ := id hl
  simp only at hcl hdl
  subst hcl hdl
  have z1 := PySem.F.sub_list_set
  have z2 := PySem.F.sub_list_frozenset
  have z3 : (Value.type "list" == Value.type "dict") = false := by decide
  unfold Builtin.«set.__init__» noKeywords Builtin.Frozenset.updateFrom; generalize hit : pyIter = it
  wp_walk
  subst hit; refine wpAny_pyIter_list hl (wpAny_bind (wpAny_runValue ?_))
  have l1 : l ≠ s.heap.objs.size := Nat.ne_of_lt (Heap.lt_size hol)
  have l2 : S ≠ s.heap.objs.size := Nat.ne_of_lt (Heap.lt_size hS)
  have l3 : A.in1.in1.handled = none := by simp [hh]
  refine set_update_ints (Walks.list (A := A.in1.in1) l3 _ l l1 its).toS S (by simp only [List.mem_cons, List.not_mem_nil, or_false, not_or]; exact ⟨l2, hn⟩) ns hz hb ?val (its.size - 0) 0 _ (by omega) (Nat.zero_le _) ⟨⟨_, Heap.get?_push_size _ rfl, rfl, rfl⟩, hl.push _⟩
    ⟨0, Nat.le_refl 0, setR_new_at (Heap.get?_push_of_some _ hS)⟩ ?done
  case val =>
    intro i v hv
    have hlt : i < ns.length := by rw [← hz]; exact (Array.getElem?_eq_some_iff.mp hv).1
    obtain ⟨t, e⟩ := IntsAre.int_at hi i v (by rw [Array.getElem?_toList]; exact hv)
    exact ⟨ns[i], t, List.getElem?_eq_getElem hlt, by rw [e, List.getD_eq_getElem?_getD, List.getElem?_eq_getElem hlt]; rfl⟩
  case done =>
    rintro ⟨h', g', d', tk', os'⟩ c hm hc hR
    obtain ⟨eg, ed, eo⟩ : g' = s.gens ∧ d' = s.drawn ∧ os' = s.os := ⟨hm.gens, hm.drawn, hm.os⟩
    subst eg ed eo
    show wpAny _ _ _ _ _ _
    refine wpAny_pure ?_; show wpAny _ _ (ret Value.none) _ _ _
    refine wpAny_pure ⟨rfl, h', tk', c, rfl, hR, hz ▸ hc, fun b o hb e => ?_⟩
    exact hm.heap b o (by simp only [List.mem_cons, List.not_mem_nil, or_false, not_or]; exact ⟨hb, Nat.ne_of_lt (Heap.lt_size e)⟩) (Heap.get?_push_of_some _ e)
set_option maxHeartbeats 3200000 in
theorem call_setL {s : Shared} {l : Addr} {its : Array Value} {ns : List Int} {Q : Value → Shared → Prop} (hh : A.handled = none) (hl : s.heap.IsList l its) (hi : IntsAre its.toList ns) (hb : ns.length + 1 < scanBound)
    (q : ∀ (h' : Heap) (tk c : Nat), SetR w h' s.heap.objs.size (fun j => decide (j ∈ ns)) c → c ≤ ns.length → (∀ b o, s.heap.get? b = some o → h'.get? b = some o) → Q (.ref s.heap.objs.size) { s with heap := h', toks := tk }) :
    wpAny (model P w) A (call (.type "set") [.ref l]) Q E s := by
  obtain ⟨c, tl, m1⟩ := PySem.F.called_set.mro
  have m2 := PySem.F.called_set.made
  have m3 := PySem.F.called_set.sub
  have m4 := PySem.F.called_set.notType
  have m5 := PySem.F.called_set.canCreate
  have m6 := PySem.F.typeCall_set_1 (.ref l)
  refine wpAny_call (codeAny_of_tree (wpAny_pure ⟨Code.quiet_builtin _ (by decide +kernel), codeAny_builtin PySem.F.entry_type_call ?_⟩))
  rw [Around.under_plain (weight_type_call_type "set" [.ref l] []) rfl]; repeat (any_goals (first | assumption | wp_step))
  refine codeAny_mono (code_set_led1 (.ref l) (E := E) (Q₁ := fun x s1 => x = .ref s.heap.objs.size ∧ s1 = { s with heap := s.heap.push (bareSet w) }) ⟨rfl, rfl⟩) fun r s1 hr => ?_
  rcases r with e | f; · exact hr
  rcases f with _ | x | _ | _
  case ret =>
    obtain ⟨rfl, rfl⟩ := hr
    have hS : (s.heap.push (bareSet w)).get? s.heap.objs.size = some (bareSet w) := Heap.get?_push_size _ rfl
    have hT : Shared.TypeIs { s with heap := s.heap.push (bareSet w) } (.ref s.heap.objs.size) "set" := ⟨_, hS, rfl⟩
    have m7 := PySem.F.called_set.init.lookup
    have m8 := PySem.F.called_set.init.bind (.ref s.heap.objs.size)
    repeat (any_goals (first | assumption | wp_step))
    have hlt : s.heap.objs.size ≠ l := by obtain ⟨o, ho, _⟩ := hl; exact Nat.ne_of_gt (Heap.lt_size ho)
    refine codeAny_mono (init_setL (E := E) (s := { s with heap := s.heap.push (bareSet w) }) (ns := ns) (by simp [hh]) hS (hl.push _) hlt hi hb) fun r2 s2 hr2 => ?_
    rcases r2 with e | f2; · exact hr2
    rcases f2 with _ | y | _ | _
    case ret =>
      obtain ⟨rfl, h', tk, c', rfl, hR, hc, hk⟩ := hr2
      repeat (any_goals (first | assumption | wp_step))
      exact q h' tk c' hR hc fun b o e => hk b o (Nat.ne_of_lt (Heap.lt_size e)) (Heap.get?_push_of_some _ e)
    all_goals exact hr2.elim
  all_goals exact hr.elim
end
section
variable {X : Cx}
def rSetL (w : World) (K : PySem.W.Frag) : RC := fun vs H Q => ∃ (a : Addr) (ns : List Int), vs = [V.ref a] ∧ SqL K H a (ns.map V.int) ∧ ns.length < 64 ∧
  ∀ (p : Addr) (c : Nat), H p = none → (∃ ks : List Int, ks.Nodup ∧ (∀ k, k ∈ ks ↔ k ∈ ns) ∧ ks.length = c) → c ≤ ns.length → Q (.ref p) (upd H p (SetO w p (fun j => decide (j ∈ ns)) c))
theorem cr_setL (hc : X.calm = true) : CallR X (.type "set") (rSetL X.w X.K) := by
  intro pins s σ H vs us Q I rel h
  obtain ⟨a, ns, e, hs, h64, q⟩ := h
  subst e
  obtain ⟨its, rv, pl, hz⟩ := I.list hs
  rw [Vals.ref1 rel]
  have hi := rv.ints
  have hsb : scanBound > 65 := by decide
  refine call_setL (ns := ns) (I.ok.hd hc) pl.isList (by simpa using hi) (by omega) ?_
  intro h' tk c R hcn kp
  refine ⟨.ref s.heap.objs.size, _, I.laid (a := s.heap.objs.size) (o := SetO X.w s.heap.objs.size (fun j => decide (j ∈ ns)) c) (t' := tk) kp (Nat.le_refl _) (setO_new R), rfl, q _ c (I.hok.fresh (Nat.le_refl _)) ?_ hcn⟩
  obtain ⟨o, es, ep, t, _, _, _, _, nd, hm, _, _, hn, _⟩ := R
  exact ⟨es.toList.map keyOf, nd, fun k => by rw [← hm k]; simp, by rw [List.length_map, Array.length_toList]; exact hn⟩
end
end Pv

namespace Pv
open PySem PySem.Spec PyProof.Rows L2 SX
def rCatS : R2 := fun x y H Q => ∃ i j, x = .str i ∧ y = .str j ∧ i.length + j.length ≤ sizeLine ∧ Q (.str (i ++ j)) H
theorem op_catS {X : Cx} : OpR X (binaryOp .Add) rCatS := op_add_str
theorem is_digit (c : Nat) : decide (c ∈ (Str.ofString "0123456789").cps.toList) = (decide (48 ≤ c) && decide (c ≤ 57)) := by
  have e : (Str.ofString "0123456789").cps.toList = [48, 49, 50, 51, 52, 53, 54, 55, 56, 57] := by rfl
  rw [e, Bool.eq_iff_iff]
  simp only [decide_eq_true_eq, List.mem_cons, List.not_mem_nil, or_false, Bool.and_eq_true]
  omega
theorem at_S {a : List Nat} {i : Nat} {c : Nat} (h : (S a).cps[i]? = some c) : a[i]? = some c := by
  simpa [S] using h
theorem size_S (a : List Nat) : (S a).cps.size = a.length := by simp [S]
section
variable {X : Cx}
def rSetLW (w : World) (K : PySem.W.Frag) : RC := fun vs H Q => ∃ (a : Addr) (ns : List Int), vs = [V.ref a] ∧ SqL K H a (ns.map V.int) ∧ ns.length ≤ 4000 ∧
  ∀ (p : Addr) (c : Nat), H p = none → (∃ ks : List Int, ks.Nodup ∧ (∀ k, k ∈ ks ↔ k ∈ ns) ∧ ks.length = c) → c ≤ ns.length → Q (.ref p) (upd H p (SetO w p (fun j => decide (j ∈ ns)) c))
theorem cr_setLW (hc : X.calm = true) : CallR X (.type "set") (rSetLW X.w X.K) := by
  intro pins s σ H vs us Q I rel h
  obtain ⟨a, ns, e, hs, h64, q⟩ := h
  subst e
  obtain ⟨its, rv, pl, hz⟩ := I.list hs
  rw [Vals.ref1 rel]
  have hi := rv.ints
  have hsb : scanBound = 4096 := rfl
  refine call_setL (ns := ns) (I.ok.hd hc) pl.isList (by simpa using hi) (by omega) ?_
  intro h' tk c R hcn kp
  refine ⟨.ref s.heap.objs.size, _, I.laid (a := s.heap.objs.size) (o := SetO X.w s.heap.objs.size (fun j => decide (j ∈ ns)) c) (t' := tk) kp (Nat.le_refl _) (setO_new R), rfl, q _ c (I.hok.fresh (Nat.le_refl _)) ?_ hcn⟩
  obtain ⟨o, es, ep, t, _, _, _, _, nd, hm, _, _, hn, _⟩ := R
  exact ⟨es.toList.map keyOf, nd, fun k => by rw [← hm k]; simp, by rw [List.length_map, Array.length_toList]; exact hn⟩
end
end Pv

namespace Pv
open PySem PySem.Spec PyProof.Rows L2 SX
abbrev sNu : Stmt := topS 34
theorem scNu : FnScope ["_law_word", "_law_sign"] ["_law_word"] (defScope sNu) := ⟨rfl, rfl, rfl, by decide +kernel, rfl, by decide +kernel, by decide +kernel⟩
section
variable {P : Program} {w : World} {K : PySem.W.Frag} {mg : Str → Option Value} {base : Heap}
def spNu : Sp := fun vs H Q _ => ∃ (a : List Nat), vs = [.str (S a)] ∧ a.length ≤ 90000 ∧ (digL a = true → a.length ≤ 640) ∧ ∀ H', Same H H' → Q (.int (lnO a)) H'
set_option maxHeartbeats 4000000 in
theorem ok_Nu {f : Addr} {fd : FuncData} (F : Fun K "_law_number" "_law_number" sNu f fd)
    (m_int : mg "int" = none) :
    FnOk P w K mg base CX0 1 f fd ["_law_word"] spNu := by
  refine F.ok scNu (fun vs H Q E h => ?_) (fun cdv A outer s H vs Q E hr h => ?_)
  · obtain ⟨a, rfl, _⟩ := h; rfl
  · obtain ⟨a, rfl, hl, hd, q⟩ := h
    have hu64 : (A.deeper (envOfC "_law_number" (defScope sNu) s.heap.objs.size f cdv)).units + 64 < cLine := by have := hr.un; omega
    have hu0 : (A.deeper (envOfC "_law_number" (defScope sNu) s.heap.objs.size f cdv)).units < cLine := by have := hr.un; omega
    refine ⟨_, pss_cons (ps_if (PW.pt (pw_or (pt_cmpR op_eq (pv 0) (pe_str) (nomark _)) (pw_or1 (pt_cmpR (op_neNil hu0) (pe_lc (own := [("_law_sign", 1)]) (g := gName 1) (tt := tTest (tOp rNotInS (tVar 1) (tC (.str "0123456789")))) (te := tVar 1) rfl scNu.nd (pi_str (pv 0)) (blkOk_by (N := ["_law_word", "_law_sign"]) (sc := defScope sNu) (by decide +kernel)) (fun _ _ _ _ _ => pg_name (i := 1) scNu.nd rfl (.inl rfl)) (fun _ _ _ _ _ => pts_one (pt_cmpR op_notInS (pv 1) (pe_str) (by rfl))) (fun _ _ _ _ _ => pv 1)) (pe_lst (pa_nil)) (nomark _)))))
        (pss_one (ps_ret (pe_un un_neg (pe_int)))) pss_nil)
      (pss_one (ps_ret (pe_ifExp (PW.pt (pw_and (pt_cmpR op_eq (pe_ix ix_str (pv 0) (pe_int) (fun _ _ => rfl)) (pe_str) (nomark _)) (pw_and1 (pt_cmpR op_ne (pv 0) (pe_str) (nomark _))))) (pe_un un_neg (pe_int)) (pe_callTy call_intQ (by rfl) m_int (by decide +kernel) (pa_cons (pv 0) pa_nil))))), ?_⟩
    have hS : (S a).length ≤ sizeLine := by rw [S_len]; exact small6 (by omega)
    refine ⟨.str (S a), rfl, rfl, _, rfl, ?_⟩
    by_cases he : a = []
    · have hz : decide (V.str (S a) = V.str (Str.ofString "")) = true := decide_eq_true (by rw [he]; rfl)
      rw [hz]
      refine iteT ?_
      refine iteT ?_
      have := q H (Same.refl _)
      unfold lnO at this
      rw [if_pos (.inl he)] at this
      exact ⟨1, rfl, this⟩
    have hz : decide (V.str (S a) = V.str (Str.ofString "")) = false := decide_eq_false fun e => he (S_inj (V.str.inj e))
    rw [hz]
    refine iteF ?_
    refine ⟨.str (S a), rfl, S a, rfl, fun D nD => lc_it (walk_str (z := S a)) (LcP H D a (fun c => if (decide (48 ≤ c) && decide (c ≤ 57)) = true then none else some (.str ⟨#[c]⟩))) (.start nD) (fun _ _ _ _ => trivial) ?_ ?_⟩
    · rintro j x H3 H4 hj hL ⟨rfl, c, hc, rfl⟩
      have hc := at_S hc
      have hjl := (List.getElem?_eq_some_iff.mp hc).1
      refine ⟨rfl, .str ⟨#[c]⟩, rfl, c, _, rfl, rfl, _, rfl, ?_⟩
      rw [is_digit]
      cases hdg : (decide (48 ≤ c) && decide (c ≤ 57)) with
      | true => exact iteF (hL.no (Same.refl _) hc (by rw [hdg]; rfl))
      | false => exact iteT ⟨_, rfl, hL.yes nD (Same.refl _) hc (by rw [hdg]; rfl) (by omega)⟩
    · rintro H3 hL
      have e3 := hL.done (by rw [size_S]; exact Nat.le_refl _)
      refine ⟨Nat.zero_le _, fun p np => ⟨D, p, _, rfl, rfl, SqL.of (upNew np e3), SqL.of upd_same, ?_⟩⟩
      have s3 := hL.1.trans (sameNew (o := .lst []) np)
      generalize upd H3 p (.lst []) = H4 at s3 ⊢
      have hem : (a.filterMap (fun c => if (decide (48 ≤ c) && decide (c ≤ 57)) = true then none else some (V.str ⟨#[c]⟩))).isEmpty = digL a := by
        clear e3 hL hd q he hS hl hz
        induction a with
        | nil => rfl
        | cons c a ih =>
          rw [List.filterMap_cons]
          cases hdg : (decide (48 ≤ c) && decide (c ≤ 57)) with
          | true => rw [if_pos rfl]; dsimp only; rw [ih]; simp [digL]; simp at hdg; exact fun _ => hdg
          | false => rw [if_neg Bool.false_ne_true]; simp [digL]; intro h1 h2; simp at hdg; omega
      rw [hem]
      refine ⟨_, rfl, ?_⟩
      cases hdg : digL a with
      | false =>
        refine iteT ?_
        have := q H4 s3
        unfold lnO at this
        rw [if_pos (.inr hdg)] at this
        exact ⟨1, rfl, this⟩
      | true =>
        refine iteF ?_
        obtain ⟨c, r, rfl⟩ : ∃ c r, a = c :: r := by
          cases a with
          | nil => exact absurd rfl he
          | cons c r => exact ⟨c, r, rfl⟩
        have hq := q H4 s3
        unfold lnO at hq
        rw [if_neg (fun e => e.elim (fun e => by cases e) (fun e => by rw [hdg] at e; cases e))] at hq
        refine ⟨.str (S (c :: r)), rfl, S (c :: r), 0, c, rfl, rfl, hS, atI_nat (j := 0) rfl, rfl, _, rfl, ?_⟩
        have hint : intText? (S (c :: r)) = some ((NumText.digitsVal (c :: r) : Nat) : Int) := int_S hdg (by simp) (by have := hd hdg; omega)
        by_cases hc : c = 48
        · have hz0 : decide (V.str (⟨#[c]⟩ : Str) = V.str (Str.ofString "0")) = true := decide_eq_true (by rw [hc]; rfl)
          rw [hz0]
          refine iteT ⟨.str (S (c :: r)), rfl, rfl, _, rfl, ?_⟩
          by_cases hr' : r = []
          · have hz1 : (!decide (V.str (S (c :: r)) = V.str (Str.ofString "0"))) = false := by rw [decide_eq_true (by rw [hc, hr']; rfl)]; rfl
            rw [hz1]
            refine iteF ⟨.str (S (c :: r)), rfl, _, _, rfl, hint, by rw [S_len]; have := hd hdg; omega, ?_⟩
            rw [if_neg (fun e => e.2 (by rw [hc, hr']))] at hq
            exact hq
          · have hz1 : (!decide (V.str (S (c :: r)) = V.str (Str.ofString "0"))) = true := by
              rw [decide_eq_false fun e => hr' (by
                have := S_inj (a := c :: r) (b := [48]) (V.str.inj e)
                simpa [hc] using this)]; rfl
            rw [hz1]
            rw [if_pos ⟨by rw [hc]; rfl, fun e => hr' (by simpa [hc] using e)⟩] at hq
            exact iteT ⟨1, rfl, hq⟩
        · have hz0 : decide (V.str (⟨#[c]⟩ : Str) = V.str (Str.ofString "0")) = false := decide_eq_false fun e => hc (by
            have := S_inj (a := [c]) (b := [48]) (V.str.inj e)
            simpa using this)
          rw [hz0]
          refine iteF ⟨.str (S (c :: r)), rfl, _, _, rfl, hint, by rw [S_len]; have := hd hdg; omega, ?_⟩
          rw [if_neg (fun e => hc (by simpa using e.1))] at hq
          exact hq
end
end Pv

namespace Pv
open PySem PySem.Spec PyProof.Rows L2 SX
/-! what a changed text keeps -/
theorem seq_with {t u : TS} {D : Ends} {σ : L2.St} {H : Hp} (Pre : L2.St → Hp → Prop) (rest : ∀ σ1 H1, Pre σ1 H1 → u D σ1 H1) (main : (∀ σ1 H1, Pre σ1 H1 → u D σ1 H1) → tSeq t u D σ H) : tSeq t u D σ H := main rest

structure Ch (a b : List Nat) : Prop where
  len : b.length ≤ 13 * (a.length + 20)
  nl : ∀ B, RB nl B a → RB nl (2 * B + 14) b
  dg : ∀ B, RB dg B a → RB dg (2 * B + 14) b
  one : 10 ∉ a → b.length ≤ 2 * (a.length + 20)
  cs : ∀ c ∈ b, c ∈ a ∨ c < 128
theorem mem_join {c s : Nat} : ∀ {l : List (List Nat)}, c ∈ TL.joinL [s] l → c = s ∨ ∃ p ∈ l, c ∈ p
  | [], h => by simp [TL.joinL] at h
  | [p], h => .inr ⟨p, List.mem_cons_self .., by simpa [TL.joinL] using h⟩
  | p :: q :: l, h => by
    simp only [TL.joinL, List.mem_append] at h
    rcases h with h | h | h
    · exact .inr ⟨p, List.mem_cons_self .., h⟩
    · exact .inl (by simpa using h)
    · rcases mem_join (l := q :: l) h with e | ⟨w, hw, e⟩
      · exact .inl e
      · exact .inr ⟨w, List.mem_cons_of_mem _ hw, e⟩
theorem wds_mem {c s : Nat} {a w : List Nat} (hw : w ∈ wds s a) (hc : c ∈ w) : c ∈ a := by
  obtain ⟨u, v, e⟩ := spl_in s a [] w hw
  rw [List.nil_append] at e
  rw [e]; simp [hc]
theorem spl_free1 {c : Nat} : ∀ (l acc : List Nat), c ∉ l → TL.spl [c] 0 acc l = [acc ++ l]
  | [], acc, _ => by rw [TL.spl_nil]; simp
  | d :: r, acc, h => by
    have hd : ¬ TL.pre [c] (d :: r) = true := fun e => by rw [pre_one] at e; exact h (by rw [of_decide_eq_true e]; simp)
    rw [TL.spl_miss (by simpa using hd), spl_free1 r (acc ++ [d]) (fun e => h (List.mem_cons_of_mem _ e))]; simp
theorem wds_one {c : Nat} {a : List Nat} (h : c ∉ a) : wds c a = [a] := by
  have := spl_free1 a [] h
  rwa [List.nil_append] at this
def txs (l : List (List Nat)) : List V := (l.map S).map V.str
theorem txs_len (l : List (List Nat)) : (txs l).length = l.length := by simp [txs]
theorem txs_at {l : List (List Nat)} {i : Nat} {w : List Nat} (h : l[i]? = some w) : (txs l)[i]? = some (.str (S w)) := by simp [txs, h]
theorem txs_set (l : List (List Nat)) (i : Nat) (w : List Nat) : (txs l).set i (.str (S w)) = txs (l.set i w) := by simp [txs, List.map_set]
theorem txs_app (l m : List (List Nat)) : txs l ++ txs m = txs (l ++ m) := by simp [txs]
theorem txs_take (l : List (List Nat)) (n : Nat) : (txs l).take n = txs (l.take n) := by simp [txs, List.map_take]
theorem txs_drop (l : List (List Nat)) (n : Nat) : (txs l).drop n = txs (l.drop n) := by simp [txs, List.map_drop]
theorem txs_rep (l : List (List Nat)) (n : Nat) : (List.replicate n (txs l)).flatten = txs (List.replicate n l).flatten := by
  induction n with
  | zero => rfl
  | succ n ih => rw [List.replicate_succ, List.replicate_succ, List.flatten_cons, List.flatten_cons, ih, txs_app]
def wt1 (l : List (List Nat)) : Nat := (l.map (·.length)).sum + l.length
theorem wt1_app (l m : List (List Nat)) : wt1 (l ++ m) = wt1 l + wt1 m := by simp [wt1]; omega
theorem wt1_take (l : List (List Nat)) (n : Nat) : wt1 (l.take n) ≤ wt1 l := by
  have := wt1_app (l.take n) (l.drop n)
  rw [List.take_append_drop] at this
  omega
theorem wt1_drop (l : List (List Nat)) (n : Nat) : wt1 (l.drop n) ≤ wt1 l := by
  have := wt1_app (l.take n) (l.drop n)
  rw [List.take_append_drop] at this
  omega
theorem wt1_wds (c : Nat) (a : List Nat) : wt1 (wds c a) = a.length + 1 := by
  have h2 := (joinL_sum (c := c) (l := wds c a)).2 (by obtain ⟨w, ws, e⟩ := wds_cons c a; rw [e]; simp)
  rw [wds_back] at h2
  unfold wt1
  omega
theorem wt1_set (l : List (List Nat)) (j : Nat) (o : List Nat) : wt1 (l.set j o) ≤ wt1 l + o.length := by
  have := sum_set_le (l := l) (j := j) (o := o)
  unfold wt1
  rw [List.length_set]
  omega
theorem wt1_mem {l : List (List Nat)} {M : Nat} (h : ∀ w ∈ l, w.length ≤ M) : wt1 l ≤ l.length * (M + 1) := by
  induction l with
  | nil => simp [wt1]
  | cons w l ih =>
    have h1 := h w (List.mem_cons_self ..)
    have h2 := ih fun v hv => h v (List.mem_cons_of_mem _ hv)
    unfold wt1 at h2 ⊢
    rw [List.map_cons, List.sum_cons, List.length_cons, Nat.succ_mul]
    omega
theorem join_wt (c : Nat) (l : List (List Nat)) : (TL.joinL [c] l).length ≤ wt1 l := by
  have := (joinL_sum (c := c) (l := l)).1
  unfold wt1
  omega
theorem ch_lines {a : List Nat} {l : List (List Nat)} (h : ∀ w ∈ l, w ∈ wds 10 a ∨ w = []) (hw : wt1 l ≤ 13 * (a.length + 20)) (h1 : 10 ∉ a → wt1 l ≤ 2 * (a.length + 20)) : Ch a (TL.joinL [10] l) := by
  refine ⟨Nat.le_trans (join_wt _ _) hw, fun B hB => ?_, fun B hB => ?_, fun z => Nat.le_trans (join_wt _ _) (h1 z), fun c hc => ?_⟩
  rotate_left 2
  · rcases mem_join hc with e | ⟨w, hw', e⟩
    · exact .inr (by omega)
    · rcases h w hw' with k | k
      · exact .inl (wds_mem k e)
      · rw [k] at e; simp at e
  · refine RB.join rfl fun w hm => ?_
    rcases h w hm with e | e
    · exact (hB.word e).mono (by omega)
    · exact RB.len (by rw [e]; simp)
  · refine RB.join (by decide) fun w hm => ?_
    rcases h w hm with e | e
    · exact (hB.word e).mono (by omega)
    · exact RB.len (by rw [e]; simp)
theorem ch_sign {a s : List Nat} (hs : s.length ≤ 1) (hc : ∀ c ∈ s, c < 128) (k m : Nat) : Ch a (a.take k ++ s ++ a.drop m) := by
  refine ⟨?_, fun B hB => ?_, fun B hB => ?_, fun _ => ?_, fun c h => ?_⟩
  rotate_left 3
  · rw [List.length_append, List.length_append, List.length_take, List.length_drop]; omega
  · rcases List.mem_append.mp h with h | h
    · rcases List.mem_append.mp h with h | h
      · exact .inl (List.mem_of_mem_take h)
      · exact .inr (hc c h)
    · exact .inl (List.mem_of_mem_drop h)
  · rw [List.length_append, List.length_append, List.length_take, List.length_drop]; omega
  · exact (((hB.take k).app (RB.len hs)).app (hB.drop m)).mono (by omega)
  · exact (((hB.take k).app (RB.len hs)).app (hB.drop m)).mono (by omega)
theorem ch_word {a w o : List Nat} {k j : Nat} (hw : (wds 10 a)[k]? = some w) (ho : o.length ≤ 14) (hoc : ∀ c ∈ o, c < 128) : Ch a (TL.joinL [10] ((wds 10 a).set k (TL.joinL [32] ((wds 32 w).set j o)))) := by
  have hwm := List.mem_of_getElem? hw
  have hl := join_set_len 32 j w o
  have hl2 := join_set_len 10 k a (TL.joinL [32] ((wds 32 w).set j o))
  have hwl := wds_each hwm
  refine ⟨by omega, fun B hB => ?_, fun B hB => ?_, fun _ => by omega, fun c hc => ?_⟩
  rotate_left 2
  · rcases mem_join hc with e | ⟨v, hv, e⟩
    · exact .inr (by omega)
    · rcases List.mem_or_eq_of_mem_set hv with k | k
      · exact .inl (wds_mem k e)
      · rw [k] at e
        rcases mem_join e with f | ⟨u, hu, f⟩
        · exact .inr (by omega)
        · rcases List.mem_or_eq_of_mem_set hu with m | m
          · exact .inl (wds_mem hwm (wds_mem m f))
          · rw [m] at f; exact .inr (hoc c f)
  · refine RB.join rfl fun v hv => ?_
    rcases List.mem_or_eq_of_mem_set hv with e | e
    · exact (hB.word e).mono (by omega)
    · have := hB.line hwm
      exact RB.len (by rw [e]; omega)
  · refine RB.join (by decide) fun v hv => ?_
    rcases List.mem_or_eq_of_mem_set hv with e | e
    · exact (hB.word e).mono (by omega)
    · rw [e]
      refine RB.join (by decide) fun u hu => ?_
      rcases List.mem_or_eq_of_mem_set hu with f | f
      · exact ((hB.word hwm).word f).mono (by omega)
      · exact RB.len (by rw [f]; omega)
theorem ch_rep {a : List Nat} {n : Nat} (hn : n ≤ 12) : Ch a (TL.joinL [10] ((wds 10 a).take 1 ++ ((List.replicate 12 ((wds 10 a).drop 1)).flatten.take n))) := by
  have hm : ∀ w ∈ ((List.replicate 12 ((wds 10 a).drop 1)).flatten.take n), w ∈ wds 10 a := fun w hw => by
    obtain ⟨l, hl, hwl⟩ := List.mem_flatten.mp (List.mem_of_mem_take hw)
    rw [(List.mem_replicate.mp hl).2] at hwl
    exact List.mem_of_mem_drop hwl
  refine ch_lines (fun w hw => .inl ?_) ?_ (fun z => ?_)
  rotate_left 2
  · have e0 : (List.replicate 12 ((wds 10 a).drop 1)).flatten = [] := by
      rw [wds_one z]; rfl
    rw [e0, List.take_nil, List.append_nil]
    have h1 := wt1_take (wds 10 a) 1
    rw [wt1_wds] at h1
    omega
  · rcases List.mem_append.mp hw with e | e
    · exact List.mem_of_mem_take e
    · exact hm w e
  · rw [wt1_app]
    have h1 := wt1_take (wds 10 a) 1
    rw [wt1_wds] at h1
    have h2 := wt1_mem (l := (List.replicate 12 ((wds 10 a).drop 1)).flatten.take n) (M := a.length) fun w hw => wds_each (hm w hw)
    have h3 : ((List.replicate 12 ((wds 10 a).drop 1)).flatten.take n).length ≤ 12 := by rw [List.length_take]; omega
    have h4 := Nat.mul_le_mul_right (a.length + 1) h3
    omega
theorem ch_three {a : List Nat} {k : Nat} {l : List (List Nat)} (h : l = (wds 10 a).take k ++ (wds 10 a).drop (k + 1) ∨ l = (wds 10 a).take (k + 1) ++ (wds 10 a).drop k ∨ l = wds 10 a ++ [[]]) : Ch a (TL.joinL [10] l) := by
  have w0 := wt1_wds 10 a
  have w1 := wt1_take (wds 10 a) k
  have w2 := wt1_take (wds 10 a) (k + 1)
  have w3 := wt1_drop (wds 10 a) k
  have w4 := wt1_drop (wds 10 a) (k + 1)
  have hw2 : wt1 l ≤ 2 * (a.length + 20) := by
    rcases h with rfl | rfl | rfl
    · rw [wt1_app]; omega
    · rw [wt1_app]; omega
    · rw [wt1_app]
      have : wt1 [[]] = 1 := rfl
      omega
  refine ch_lines (fun w hw => ?_) (by omega) (fun _ => hw2)
  · rcases h with rfl | rfl | rfl
    · exact .inl ((List.mem_append.mp hw).elim List.mem_of_mem_take List.mem_of_mem_drop)
    · exact .inl ((List.mem_append.mp hw).elim List.mem_of_mem_take List.mem_of_mem_drop)
    · exact (List.mem_append.mp hw).elim .inl (fun e => .inr (by simpa using e))
theorem join_ok {l : List (List Nat)} {s : Nat} (h : wt1 l ≤ 1000000) : ((l.map S).map (·.length)).sum + (l.map S).length * (S [s]).length ≤ 16777216 := by
  rw [lens, List.length_map, S_len]
  unfold wt1 at h
  simp only [List.length_cons, List.length_nil]
  omega
theorem lines_wt {a : List Nat} {l : List (List Nat)} (hl : l ≠ []) (h : (TL.joinL [10] l).length ≤ 13 * (a.length + 20)) : wt1 l ≤ 13 * (a.length + 20) + 1 := by
  have := (joinL_sum (c := 10) (l := l)).2 hl
  unfold wt1
  omega
end Pv

namespace Pv
open PySem PySem.Spec PyProof.Rows L2 SX
abbrev sCh : Stmt := topS 35
theorem scCh : FnScope ["_law_deck_here", "_law_text_here", "_law_at", "_law_course", "_law_sign", "_law_lines", "_law_k", "_law_words", "_law_odd_here"] ["_law_deck_here", "_law_text_here"] (defScope sCh) := ⟨rfl, rfl, rfl, by decide +kernel, rfl, by decide +kernel, by decide +kernel⟩
def oddW : List String := ["", "0", "00", "07", "1:", "0:", ":", "posts", "6", "1000000000001", "1000000000000:"]
def oddX : List String := ["-1", "1,0", "0,0,1"]
theorem odd_word {j : Nat} {x : V} (h : (oddW.map (fun s => V.str (Str.ofString s)) ++ oddX.map (fun s => V.str (Str.ofString s)))[j]? = some x) : ∃ o, x = .str (S o) ∧ o.length ≤ 14 ∧ ∀ c ∈ o, c < 128 := by
  rw [← List.map_append] at h
  obtain ⟨s, hs, rfl⟩ := List.mem_map.mp (List.mem_of_getElem? h)
  refine ⟨(Str.ofString s).cps.toList, congrArg V.str (S_of _).symm, ?_⟩
  have key : ∀ s ∈ oddW ++ oddX, (Str.ofString s).cps.toList.length ≤ 14 ∧ ∀ c ∈ (Str.ofString s).cps.toList, c < 128 := by decide +kernel
  exact key s hs
section
variable {P : Program} {w : World} {K : PySem.W.Frag} {mg : Str → Option Value} {base : Heap}
def spCh (K : PySem.W.Frag) : Sp := fun vs H Q _ => ∃ (st c r : Addr) (t : Nat) (a : List Nat), vs = [.ref st, .str (S a)] ∧ DS H st c r t ∧ t + 20 ≤ 1000000 ∧ a.length ≤ 6000 ∧
  ∀ (H' : Hp) (b : List Nat) (t' : Nat), DS H' st c r t' → t' ≤ t + 10 → Ext st r H H' → Ch a b → Q (.str (S b)) H'
set_option maxHeartbeats 8000000 in
theorem ok_Ch {f fDr fOn : Addr} {fd fdDr fdOn : FuncData} (F : Fun K "_law_changed" "_law_changed" sCh f fd)
    (FDr : Fun K "_law_next" "_law_next" sDraw fDr fdDr) (bDr : Binds K fdDr ["_law_deck_here", "_law_many"] []) (gDr : mg "_law_next" = some (.ref fDr)) (GDr : FnOk P w K mg base CX0 1 fDr fdDr ["_law_deck_here", "_law_many"] spDraw)
    (FOn : Fun K "_law_one" "_law_one" sOne fOn fdOn) (bOn : Binds K fdOn ["_law_deck_here", "_law_items"] []) (gOn : mg "_law_one" = some (.ref fOn)) (GOn : FnOk P w K mg base CX0 2 fOn fdOn ["_law_deck_here", "_law_items"] (spOne K))
    (m_len : mg "len" = none) (m_int : mg "int" = none) :
    FnOk P w K mg base CX0 3 f fd ["_law_deck_here", "_law_text_here"] (spCh K) := by
  refine F.ok scCh (fun vs H Q E h => ?_) (fun cdv A outer s H vs Q E hr h => ?_)
  · obtain ⟨st, c, r, t, a, rfl, _⟩ := h; rfl
  · obtain ⟨st, c, r, t, a, rfl, hd, ht, hl, q⟩ := h
    refine ⟨_, pss_cons (ps_par (i := 2) (j := 3) rfl scCh.nd rfl rfl (by decide) rfl rfl (pa_cons (pe_call GDr (hr.mono (by omega)) (by rfl) gDr FDr.kp bDr .nil pass0 (pa_cons (pv 0) (pa_cons (pe_op op_add (pe_callB call_lenS (by rfl) m_len PySem.boot_len (pa_cons (pv 1) pa_nil)) (pe_int)) pa_nil))) (pa_cons (pe_call GDr (hr.mono (by omega)) (by rfl) gDr FDr.kp bDr .nil pass0 (pa_cons (pv 0) (pa_cons (pe_int) pa_nil))) pa_nil)) rfl)
      (pss_cons (ps_set (i := 4) scCh.nd rfl (.inl rfl) (pe_ix ix_str (pe_str) (pe_call GDr (hr.mono (by omega)) (by rfl) gDr FDr.kp bDr .nil pass0 (pa_cons (pv 0) (pa_cons (pe_int) pa_nil))) (fun _ _ => rfl)))
      (pss_cons (ps_if (pt_cmpR op_lt (pv 3) (pe_int) (nomark _))
        (pss_one (ps_ret (pe_op op_catS (pe_op op_catS (pe_slice C8.sl_txt (pv 1) po_none (po_some (pv 2))) (pe_ix ix_list (pe_lst (pa_cons (pv 4) (pa_cons (pe_str) (pa_cons (pv 4) pa_nil)))) (pv 3) (fun _ _ => rfl))) (pe_slice C8.sl_txt (pv 1) (po_some (pe_op op_add (pv 2) (pe_callTy call_int1 (by rfl) m_int (by decide +kernel) (pa_cons (pe_cmpR op_gt (pv 3) (pe_int) (nomark _)) pa_nil)))) po_none)))) pss_nil)
      (pss_cons (ps_set (i := 5) scCh.nd rfl (.inl rfl) (pe_m1 PySem.F.slot_str_split PySem.F.type_str_split mt_splitQ (pv 1) (pe_str)))
      (pss_cons (ps_set (i := 6) scCh.nd rfl (.inl rfl) (pe_call GDr (hr.mono (by omega)) (by rfl) gDr FDr.kp bDr .nil pass0 (pa_cons (pv 0) (pa_cons (pe_callB call_lenQ (by rfl) m_len PySem.boot_len (pa_cons (pv 5) pa_nil)) pa_nil))))
      (pss_cons (ps_if (pt_cmpR op_lt (pv 3) (pe_int) (nomark _))
        (pss_cons (ps_set (i := 7) scCh.nd rfl (.inl rfl) (pe_m1 PySem.F.slot_str_split PySem.F.type_str_split mt_splitQ (pe_ix ix_list (pv 5) (pv 6) (fun _ _ => rfl)) (pe_str)))
        (pss_cons (ps_set (i := 8) scCh.nd rfl (.inl rfl) (pe_lst (pa_cons (pe_str) (pa_cons (pe_str) (pa_cons (pe_str) (pa_cons (pe_str) (pa_cons (pe_str) (pa_cons (pe_str) (pa_cons (pe_str) (pa_cons (pe_str) (pa_cons (pe_str) (pa_cons (pe_str) (pa_cons (pe_str) pa_nil)))))))))))))
        (pss_cons (ps_set (i := 8) scCh.nd rfl (.inl rfl) (pe_op op_cat (pv 8) (pe_lst (pa_cons (pe_str) (pa_cons (pe_str) (pa_cons (pe_str) pa_nil))))))
        (pss_cons (ps_asg (pe_call GOn (hr.mono (by omega)) (by rfl) gOn FOn.kp bOn .nil pass0 (pa_cons (pv 0) (pa_cons (pv 8) pa_nil))) (pg_sub (pv 7) (pe_call GDr (hr.mono (by omega)) (by rfl) gDr FDr.kp bDr .nil pass0 (pa_cons (pv 0) (pa_cons (pe_callB call_lenQ (by rfl) m_len PySem.boot_len (pa_cons (pv 7) pa_nil)) pa_nil))) set_list))
        (pss_one (ps_asg (pe_m1 PySem.F.slot_str_join PySem.F.type_str_join mt_joinQ (pe_str) (pv 7)) (pg_sub (pv 5) (pv 6) set_list))))))) (pss_one (ps_if (pt_cmpR op_eq (pv 3) (pe_int) (nomark _))
          (pss_one (ps_set (i := 5) scCh.nd rfl (.inl rfl) (pe_op op_cat (pe_slice sl_list (pv 5) po_none (po_some (pe_int))) (pe_slice sl_list (pe_op op_rep (pe_slice sl_list (pv 5) (po_some (pe_int)) po_none) (pe_int)) po_none (po_some (pe_call GDr (hr.mono (by omega)) (by rfl) gDr FDr.kp bDr .nil pass0 (pa_cons (pv 0) (pa_cons (pe_int) pa_nil)))))))) (pss_one (ps_set (i := 5) scCh.nd rfl (.inl rfl) (pe_call GOn (hr.mono (by omega)) (by rfl) gOn FOn.kp bOn .nil pass0 (pa_cons (pv 0) (pa_cons (pe_lst (pa_cons (pe_op op_cat (pe_slice sl_list (pv 5) po_none (po_some (pv 6))) (pe_slice sl_list (pv 5) (po_some (pe_op op_add (pv 6) (pe_int))) po_none)) (pa_cons (pe_op op_cat (pe_slice sl_list (pv 5) po_none (po_some (pe_op op_add (pv 6) (pe_int)))) (pe_slice sl_list (pv 5) (po_some (pv 6)) po_none)) (pa_cons (pe_op op_cat (pv 5) (pe_lst (pa_cons (pe_str) pa_nil))) pa_nil)))) pa_nil))))))))
      (pss_one (ps_ret (pe_m1 PySem.F.slot_str_join PySem.F.type_str_join mt_joinQ (pe_str) (pv 5))))))))), ?_⟩
    have hl6 : (S a).length + 2 ≤ sizeLine := by rw [S_len]; exact small6 (by omega)
    have hl7 : (S a).length ≤ sizeLine := by omega
    refine ⟨.ref st, rfl, .str (S a), rfl, S a, rfl, hl7, _, _, rfl, rfl, st, c, r, t, _, rfl, hd, by omega, by rw [S_len]; omega, by rw [S_len]; omega, fun H1 ai h10 h11 D1 X1 => ?_⟩
    rw [S_len] at h11
    refine ⟨.ref st, rfl, st, c, r, t + 1, 8, rfl, D1, by omega, by decide, by decide, fun H2 co h20 h21 D2 X2 => ⟨_, _, rfl, ?_⟩⟩
    obtain ⟨at', rfl⟩ : ∃ n : Nat, ai = n := ⟨ai.toNat, by omega⟩
    refine ⟨.ref st, rfl, st, c, r, t + 2, 16, rfl, D2, by omega, by decide, by decide, fun H3 si h30 h31 D3 X3 => ?_⟩
    obtain ⟨sg, rfl⟩ : ∃ n : Nat, si = n := ⟨si.toNat, by omega⟩
    have hsl : (Str.ofString " \n0123456789:,-p").cps.toList.length = 16 := by rfl
    obtain ⟨ch, hch⟩ : ∃ ch, (Str.ofString " \n0123456789:,-p").cps.toList[sg]? = some ch := ⟨_, List.getElem?_eq_getElem (by rw [hsl]; omega)⟩
    have hchl : ch < 128 := by
      have key : ∀ c ∈ (Str.ofString " \n0123456789:,-p").cps.toList, c < 128 := by decide +kernel
      exact key ch (List.mem_of_getElem? hch)
    refine ⟨_, sg, ch, rfl, rfl, by decide, atI_nat hch, ?_⟩
    have x3 := (X1.trans X2).trans X3
    refine ⟨.int co, rfl, _, _, rfl, rfl, _, rfl, ?_⟩
    refine ite2 (fun h3 => ?_) (fun h3 => ?_)
    · have h3 : co < 3 := of_decide_eq_true h3
      obtain ⟨z, hat, hz, hzc⟩ : ∃ z : List Nat, atI [V.str ⟨#[ch]⟩, V.str (Str.ofString ""), V.str ⟨#[ch]⟩] co = some (.str (S z)) ∧ z.length ≤ 1 ∧ ∀ c ∈ z, c < 128 := by
        obtain h | h | h : co = 0 ∨ co = 1 ∨ co = 2 := by omega
        · exact ⟨[ch], by rw [h]; rfl, by simp, by simpa using hchl⟩
        · exact ⟨[], by rw [h]; rfl, by simp, by simp⟩
        · exact ⟨[ch], by rw [h]; rfl, by simp, by simpa using hchl⟩
      refine ⟨.str (S a), rfl, .int at', rfl, at', rfl, S a, rfl, hl7, ?_⟩
      rw [slice_to (by omega), Int.toNat_natCast]
      refine ⟨.str ⟨#[ch]⟩, rfl, .str ⟨#[ch]⟩, rfl, (show (3 : Nat) ≤ sizeLine by decide), fun L nL => ?_⟩
      have sz : (2 : Nat) * 20000 ≤ sizeLine := by decide
      refine ⟨.int co, rfl, L, _, _, _, rfl, rfl, SqL.of upd_same, hat, _, _, rfl, rfl, by rw [S_len, S_len, List.length_take]; omega, ?_⟩
      rw [S_cat]
      refine ⟨.str (S a), rfl, .int at', rfl, .int co, rfl, _, _, rfl, rfl, .inr ⟨_, rfl, _, _, rfl, rfl, _, rfl, S a, rfl, hl7, ?_⟩⟩
      obtain ⟨m, hm⟩ : ∃ m : Nat, (at' : Int) + (if decide (0 < co) = true then 1 else 0) = (m : Int) := ⟨((at' : Int) + (if decide (0 < co) = true then 1 else 0)).toNat, by split <;> omega⟩
      rw [hm, slice_from (by omega), Int.toNat_natCast]
      refine ⟨_, _, rfl, rfl, by rw [S_len, S_len, List.length_append, List.length_take, List.length_drop]; omega, ?_⟩
      rw [S_cat]
      exact q _ _ (t + 3) (D3.new nL) (by omega) (x3.trans (Ext.of (sameNew nL))) (ch_sign hz hzc at' m)
    have h3 : 3 ≤ co := by
      by_cases y : co < 3
      · exact absurd (decide_eq_true y) h3
      · omega
    refine ⟨.str (S a), rfl, ⟨_, rfl⟩, _, _, rfl, rfl, rfl, hl6, fun Ln nLn => ?_⟩
    rw [show Str.ofString "\n" = S [10] from rfl, split_wds (by decide)]
    have oLn := D3.off nLn
    have fLn := x3.nil D3 nLn
    have lw := wds_len 10 a
    have D4 := D3.new nLn (o := .lst (txs (wds 10 a)))
    have x4 := x3.trans (Ext.of (sameNew (o := .lst (txs (wds 10 a))) nLn))
    have eL4 : (upd H3 Ln (.lst (txs (wds 10 a)))) Ln = some (.lst (txs (wds 10 a))) := upd_same
    show _
    change (gName 5 (V.ref Ln) _ (upd H3 Ln (.lst (txs (wds 10 a)))) _)
    generalize upd H3 Ln (.lst (txs (wds 10 a))) = H4 at D4 x4 eL4 ⊢
    have ln0 : 0 < (wds 10 a).length := by obtain ⟨w, ws, e⟩ := wds_cons 10 a; rw [e]; simp
    refine ⟨.ref st, rfl, .ref Ln, rfl, Ln, _, rfl, .inl (SqL.of eL4), st, c, r, t + 3, _, rfl, D4, by omega, by rw [txs_len]; omega, by rw [txs_len]; omega, fun H5 ki h50 h51 D5 X5 => ?_⟩
    rw [txs_len] at h51
    obtain ⟨k, rfl⟩ : ∃ n : Nat, ki = n := ⟨ki.toNat, by omega⟩
    have x5 := x4.trans X5
    have eL5 := X5 _ _ eL4 oLn.1 oLn.2.2
    have hkl : k < (wds 10 a).length := by omega
    obtain ⟨w, hw⟩ : ∃ w, (wds 10 a)[k]? = some w := ⟨_, List.getElem?_eq_getElem hkl⟩
    have hwl := wds_each (List.mem_of_getElem? hw)
    dsimp only
    refine (id ?_ : tSeq (tIfS _ _ _) _ _ _ _)
    refine seq_with (fun σ Hx => ∃ (y7 y8 : Option V) (La : Addr) (l : List (List Nat)) (t' : Nat), σ = [some (.ref st), some (.str (S a)), some (.int at'), some (.int co), some (.str ⟨#[ch]⟩), some (.ref La), some (.int k), y7, y8] ∧ DS Hx st c r t' ∧ t' ≤ t + 10 ∧ Ext st r H Hx ∧ Hx La = some (.lst (txs l)) ∧ Ch a (TL.joinL [10] l)) (fun σ Hx h => ?_) (fun rest => ?_)
    · obtain ⟨y7, y8, La, l, t', rfl, Dx, htx, xx, eLx, hch'⟩ := h
      refine ⟨⟨_, rfl⟩, .ref La, rfl, S [10], La, l.map S, rfl, rfl, .inl (SqL.of eLx), join_ok ?_, ?_⟩
      · by_cases y : l = []
        · rw [y]; decide
        · have := lines_wt y hch'.len; omega
      · rw [join_S]
        exact q _ _ t' Dx htx xx hch'
    refine ⟨.int co, rfl, _, _, rfl, rfl, _, rfl, ?_⟩
    refine ite2 (fun h6 => ?_) (fun h6 => ?_)
    · -- a word
      refine ⟨.ref Ln, rfl, .int k, rfl, Ln, _, _, .str (S w), rfl, rfl, SqL.of eL5, atI_nat (txs_at hw), ⟨_, rfl⟩, _, _, rfl, rfl, rfl, by rw [S_len]; exact small6 (by omega), fun Wn nWn => ?_⟩
      rw [show Str.ofString " " = S [32] from rfl, split_wds (by decide)]
      change (gName 7 (V.ref Wn) _ (upd H5 Wn (.lst (txs (wds 32 w)))) _)
      have oWn := D5.off nWn
      have fWn := x5.nil D5 nWn
      have nLW : Ln ≠ Wn := ne_of_none eL5 nWn
      have D6 := D5.new nWn (o := .lst (txs (wds 32 w)))
      have x6 := x5.trans (Ext.of (sameNew (o := .lst (txs (wds 32 w))) nWn))
      have eL6 := upNew nWn (o := .lst (txs (wds 32 w))) eL5
      have eW6 : (upd H5 Wn (.lst (txs (wds 32 w)))) Wn = some (.lst (txs (wds 32 w))) := upd_same
      generalize upd H5 Wn (.lst (txs (wds 32 w))) = H6 at D6 x6 eL6 eW6 ⊢
      have wn0 : 0 < (wds 32 w).length := by obtain ⟨w1, ws, e⟩ := wds_cons 32 w; rw [e]; simp
      have wnl := wds_len 32 w
      refine ⟨(show (11 : Nat) ≤ sizeLine by decide), fun O1 nO1 => ?_⟩
      refine ⟨.ref O1, rfl, (show (3 : Nat) ≤ sizeLine by decide), fun O2 nO2 => ⟨O1, O2, _, _, rfl, rfl, upNew nO2 upd_same, upd_same, by decide, fun O3 nO3 => ?_⟩⟩
      have s7 := ((sameNew (o := .lst (oddW.map fun s => V.str (Str.ofString s))) nO1).trans (sameNew (o := .lst (oddX.map fun s => V.str (Str.ofString s))) nO2)).trans (sameNew (o := .lst (oddW.map (fun s => V.str (Str.ofString s)) ++ oddX.map (fun s => V.str (Str.ofString s)))) nO3)
      have D7 := D6.same s7
      have x7 := x6.trans (Ext.of s7)
      have eL7 := s7 _ _ eL6
      have eW7 := s7 _ _ eW6
      have oO3 := ((D6.new (o := .lst (oddW.map fun s => V.str (Str.ofString s))) nO1).new (o := .lst (oddX.map fun s => V.str (Str.ofString s))) nO2).off nO3
      refine ⟨.ref st, rfl, .ref O3, rfl, st, c, r, O3, t + 4, _, rfl, D7, by omega, upd_same, oO3.1, oO3.2.2, by rw [List.length_append]; exact Nat.lt_of_lt_of_le (show (0 : Nat) < 11 by decide) (Nat.le_add_right _ _), by rw [List.length_append]; exact (show (11 : Nat) + 3 ≤ 1000 by decide), fun H8 jo x hx D8 X8 => ?_⟩
      obtain ⟨o, rfl, ho, hoc⟩ := odd_word hx
      have x8 := x7.trans X8
      have eL8 := X8 _ _ eL7 oLn.1 oLn.2.2
      have eW8 := X8 _ _ eW7 oWn.1 oWn.2.2
      refine ⟨.ref Wn, rfl, .ref st, rfl, .ref Wn, rfl, Wn, _, rfl, .inl (SqL.of eW8), st, c, r, t + 5, _, rfl, D8, by omega, by rw [txs_len]; omega, by rw [txs_len]; omega, fun H9 ji h90 h91 D9 X9 => ?_⟩
      rw [txs_len] at h91
      obtain ⟨j, rfl⟩ : ∃ n : Nat, ji = n := ⟨ji.toNat, by omega⟩
      have x9 := x8.trans X9
      have eL9 := X9 _ _ eL8 oLn.1 oLn.2.2
      have eW9 := X9 _ _ eW8 oWn.1 oWn.2.2
      refine ⟨Wn, _, _, j, rfl, rfl, eW9, ixN_nat (by rw [txs_len]; omega), ?_⟩
      rw [txs_set]
      have eL10 : (upd H9 Wn (.lst (txs ((wds 32 w).set j o)))) Ln = some (.lst (txs (wds 10 a))) := by rw [upd_ne nLW]; exact eL9
      have hwt := wt1_set (wds 32 w) j o
      rw [wt1_wds] at hwt
      refine ⟨⟨_, rfl⟩, .ref Wn, rfl, S [32], Wn, ((wds 32 w).set j o).map S, rfl, rfl, .inl (SqL.of upd_same), join_ok (by omega), .ref Ln, rfl, .int k, rfl, Ln, _, _, k, rfl, rfl, eL10, ixN_nat (by rw [txs_len]; exact hkl), ?_⟩
      rw [join_S, txs_set]
      refine rest _ _ ⟨_, _, Ln, (wds 10 a).set k (TL.joinL [32] ((wds 32 w).set j o)), t + 6, rfl, (D9.put oWn.1 oWn.2.1 oWn.2.2).put oLn.1 oLn.2.1 oLn.2.2, by omega, ExtPut (ExtPut x9 fWn) fLn, upd_same, ch_word hw ho hoc⟩
    refine ⟨.int co, rfl, rfl, _, rfl, ?_⟩
    by_cases h7 : co = 6
    · rw [show decide (V.int co = V.int 6) = true from decide_eq_true (by rw [h7])]
      refine iteT ?_
      have sz : (12 : Nat) * 7000 ≤ sizeLine := by decide
      refine ⟨.ref Ln, rfl, 1, rfl, Ln, _, rfl, SqL.of eL5, fun P1 nP1 => ?_⟩
      rw [show cutV (txs (wds 10 a)) none (some 1) = txs ((wds 10 a).take 1) from (cut_to _ 1).trans (txs_take _ _)]
      have s6 := sameNew (o := .lst (txs ((wds 10 a).take 1))) nP1
      have e61 : (upd H5 P1 (.lst (txs ((wds 10 a).take 1)))) P1 = some (.lst (txs ((wds 10 a).take 1))) := upd_same
      have D6 := D5.new nP1 (o := .lst (txs ((wds 10 a).take 1)))
      have o1 := D5.off nP1
      generalize upd H5 P1 (.lst (txs ((wds 10 a).take 1))) = H6 at s6 e61 D6 ⊢
      refine ⟨.ref Ln, rfl, 1, rfl, slLt (SqL.of (s6 _ _ eL5)) fun P2 nP2 => ?_⟩
      rw [cut_tail1, txs_drop]
      have s7 := sameNew (o := .lst (txs ((wds 10 a).drop 1))) nP2
      have e72 : (upd H6 P2 (.lst (txs ((wds 10 a).drop 1)))) P2 = some (.lst (txs ((wds 10 a).drop 1))) := upd_same
      have D7 := D6.new nP2 (o := .lst (txs ((wds 10 a).drop 1)))
      generalize upd H6 P2 (.lst (txs ((wds 10 a).drop 1))) = H7 at s7 e72 D7 ⊢
      refine ⟨P2, 12, _, rfl, rfl, e72, by decide, by decide, by rw [txs_len, List.length_drop, show (12 : Int).toNat = 12 from rfl]; omega, fun P3 nP3 => ?_⟩
      rw [show (12 : Int).toNat = 12 from rfl, txs_rep]
      have s8 := sameNew (o := .lst (txs (List.replicate 12 ((wds 10 a).drop 1)).flatten)) nP3
      have e83 : (upd H7 P3 (.lst (txs (List.replicate 12 ((wds 10 a).drop 1)).flatten))) P3 = some (.lst (txs (List.replicate 12 ((wds 10 a).drop 1)).flatten)) := upd_same
      have D8 := D7.new nP3 (o := .lst (txs (List.replicate 12 ((wds 10 a).drop 1)).flatten))
      have o3 := D7.off nP3
      generalize upd H7 P3 (.lst (txs (List.replicate 12 ((wds 10 a).drop 1)).flatten)) = H8 at s8 e83 D8 ⊢
      refine ⟨.ref st, rfl, st, c, r, t + 4, 13, rfl, D8, by omega, by decide, by decide, fun H9 ni h90 h91 D9 X9 => ⟨ni, rfl, P3, _, rfl, SqL.of (X9 _ _ e83 o3.1 o3.2.2), fun P4 nP4 => ?_⟩⟩
      obtain ⟨n, rfl⟩ : ∃ n : Nat, ni = n := ⟨ni.toNat, by omega⟩
      rw [cut_to, txs_take]
      have e91 := X9 _ _ (s8 _ _ (s7 _ _ e61)) o1.1 o1.2.2
      have s10 := sameNew (o := .lst (txs ((List.replicate 12 ((wds 10 a).drop 1)).flatten.take n))) nP4
      have szz : (txs ((wds 10 a).take 1)).length + (txs ((List.replicate 12 ((wds 10 a).drop 1)).flatten.take n)).length ≤ sizeLine := by
        rw [txs_len, txs_len, List.length_take, List.length_take]; omega
      refine ⟨P1, P4, _, _, rfl, rfl, s10 _ _ e91, upd_same, szz, fun P5 nP5 => ?_⟩
      rw [txs_app]
      refine rest _ _ ⟨_, _, P5, _, t + 5, rfl, (D9.new nP4).new nP5, by omega, ((((x5.trans (Ext.of s6)).trans (Ext.of s7)).trans ((Ext.of s8).trans X9)).trans (Ext.of s10)).trans (Ext.of (sameNew nP5)), upd_same, ch_rep (by omega)⟩
    · rw [show decide (V.int co = V.int 6) = false from decide_eq_false (fun e => h7 (V.int.inj e))]
      refine iteF ?_
      have sz : (2 : Nat) * 7000 ≤ sizeLine := by decide
      have hk1 : (k : Int) + 1 = ((k + 1 : Nat) : Int) := by omega
      refine ⟨.ref st, rfl, .ref Ln, rfl, .int k, rfl, k, rfl, Ln, _, rfl, SqL.of eL5, fun A1 nA1 => ?_⟩
      rw [cut_to, txs_take]
      have sA1 := sameNew (o := .lst (txs ((wds 10 a).take k))) nA1
      have eA1 : (upd H5 A1 (.lst (txs ((wds 10 a).take k)))) A1 = some (.lst (txs ((wds 10 a).take k))) := upd_same
      generalize upd H5 A1 (.lst (txs ((wds 10 a).take k))) = G1 at sA1 eA1 ⊢
      refine ⟨.ref Ln, rfl, .int k, rfl, _, _, rfl, rfl, _, rfl, slLt (SqL.of (sA1 _ _ eL5)) fun A2 nA2 => ?_⟩
      rw [hk1, cut_tail, txs_drop]
      have sA2 := sameNew (o := .lst (txs ((wds 10 a).drop (k + 1)))) nA2
      have eA2 : (upd G1 A2 (.lst (txs ((wds 10 a).drop (k + 1))))) A2 = some (.lst (txs ((wds 10 a).drop (k + 1)))) := upd_same
      generalize upd G1 A2 (.lst (txs ((wds 10 a).drop (k + 1)))) = G2 at sA2 eA2 ⊢
      refine ⟨A1, A2, _, _, rfl, rfl, sA2 _ _ eA1, eA2, by rw [txs_len, txs_len, List.length_take, List.length_drop]; omega, fun A3 nA3 => ?_⟩
      rw [txs_app]
      have sA3 := sameNew (o := .lst (txs ((wds 10 a).take k ++ (wds 10 a).drop (k + 1)))) nA3
      have eA3 : (upd G2 A3 (.lst (txs ((wds 10 a).take k ++ (wds 10 a).drop (k + 1))))) A3 = some (.lst (txs ((wds 10 a).take k ++ (wds 10 a).drop (k + 1)))) := upd_same
      have s53 := (sA1.trans sA2).trans sA3
      have D3' := D5.same s53
      have oA3 := (D5.same (sA1.trans sA2)).off nA3
      generalize upd G2 A3 (.lst (txs ((wds 10 a).take k ++ (wds 10 a).drop (k + 1)))) = G3 at sA3 eA3 s53 D3' ⊢
      -- the second
      refine ⟨.ref Ln, rfl, .int k, rfl, _, _, rfl, rfl, _, rfl, Ln, _, rfl, SqL.of (s53 _ _ eL5), fun B1 nB1 => ?_⟩
      rw [hk1, cut_to, txs_take]
      have sB1 := sameNew (o := .lst (txs ((wds 10 a).take (k + 1)))) nB1
      have eB1 : (upd G3 B1 (.lst (txs ((wds 10 a).take (k + 1))))) B1 = some (.lst (txs ((wds 10 a).take (k + 1)))) := upd_same
      generalize upd G3 B1 (.lst (txs ((wds 10 a).take (k + 1)))) = G4 at sB1 eB1 ⊢
      refine ⟨.ref Ln, rfl, .int k, rfl, k, rfl, slLt (SqL.of (sB1 _ _ (s53 _ _ eL5))) fun B2 nB2 => ?_⟩
      rw [cut_tail, txs_drop]
      have sB2 := sameNew (o := .lst (txs ((wds 10 a).drop k))) nB2
      have eB2 : (upd G4 B2 (.lst (txs ((wds 10 a).drop k)))) B2 = some (.lst (txs ((wds 10 a).drop k))) := upd_same
      generalize upd G4 B2 (.lst (txs ((wds 10 a).drop k))) = G5 at sB2 eB2 ⊢
      refine ⟨B1, B2, _, _, rfl, rfl, sB2 _ _ eB1, eB2, by rw [txs_len, txs_len, List.length_take, List.length_drop]; omega, fun B3 nB3 => ?_⟩
      rw [txs_app]
      have sB3 := sameNew (o := .lst (txs ((wds 10 a).take (k + 1) ++ (wds 10 a).drop k))) nB3
      have eB3 : (upd G5 B3 (.lst (txs ((wds 10 a).take (k + 1) ++ (wds 10 a).drop k)))) B3 = some (.lst (txs ((wds 10 a).take (k + 1) ++ (wds 10 a).drop k))) := upd_same
      have s56 := s53.trans ((sB1.trans sB2).trans sB3)
      have oB3 := (D5.same (s53.trans (sB1.trans sB2))).off nB3
      generalize upd G5 B3 (.lst (txs ((wds 10 a).take (k + 1) ++ (wds 10 a).drop k))) = G6 at sB3 eB3 s56 ⊢
      -- the third
      refine ⟨.ref Ln, rfl, (show (1 : Nat) ≤ sizeLine by decide), fun C1 nC1 => ?_⟩
      have sC1 := sameNew (o := .lst (txs [[]])) nC1
      have szC : (txs (wds 10 a)).length + (txs [[]]).length ≤ sizeLine := by rw [txs_len, txs_len]; simp; omega
      refine ⟨Ln, C1, _, txs [[]], rfl, rfl, sC1 _ _ (s56 _ _ eL5), upd_same, szC, fun C3 nC3 => ?_⟩
      rw [txs_app]
      have sC3 := sC1.trans (sameNew (o := .lst (txs (wds 10 a ++ [[]]))) nC3)
      have eC3 : (upd (upd G6 C1 (.lst (txs [[]]))) C3 (.lst (txs (wds 10 a ++ [[]])))) C3 = some (.lst (txs (wds 10 a ++ [[]]))) := upd_same
      have oC3 := (D5.same (s56.trans sC1)).off nC3
      have s57 := s56.trans sC3
      have eA7 := sC3 _ _ (sB3 _ _ (sB2 _ _ (sB1 _ _ eA3)))
      have eB7 := sC3 _ _ eB3
      refine ⟨(show (3 : Nat) ≤ sizeLine by decide), fun Z nZ => ?_⟩
      have s58 := s57.trans (sameNew (o := .lst [.ref A3, .ref B3, .ref C3]) nZ)
      have D8 := D5.same s58
      have eZ : (upd (upd (upd G6 C1 (.lst (txs [[]]))) C3 (.lst (txs (wds 10 a ++ [[]])))) Z (.lst [.ref A3, .ref B3, .ref C3])) Z = some (.lst [.ref A3, .ref B3, .ref C3]) := upd_same
      have oZ := (D5.same s57).off nZ
      have eA8 := (sameNew (o := .lst [.ref A3, .ref B3, .ref C3]) nZ) _ _ eA7
      have eB8 := (sameNew (o := .lst [.ref A3, .ref B3, .ref C3]) nZ) _ _ eB7
      have eC8 := (sameNew (o := .lst [.ref A3, .ref B3, .ref C3]) nZ) _ _ eC3
      refine ⟨st, c, r, Z, t + 4, _, rfl, D8, by omega, eZ, oZ.1, oZ.2.2, (show (0 : Nat) < 3 by decide), (show (3 : Nat) ≤ 1000 by decide), fun H9 jo x hx D9 X9 => ?_⟩
      obtain ⟨La, l, rfl, eLa, hl3⟩ : ∃ (La : Addr) (l : List (List Nat)), x = .ref La ∧ H9 La = some (.lst (txs l)) ∧ (l = (wds 10 a).take k ++ (wds 10 a).drop (k + 1) ∨ l = (wds 10 a).take (k + 1) ++ (wds 10 a).drop k ∨ l = wds 10 a ++ [[]]) := by
        match jo, hx with
        | 0, hx => simp at hx; exact ⟨A3, _, hx.symm, X9 _ _ eA8 oA3.1 oA3.2.2, .inl rfl⟩
        | 1, hx => simp at hx; exact ⟨B3, _, hx.symm, X9 _ _ eB8 oB3.1 oB3.2.2, .inr (.inl rfl)⟩
        | 2, hx => simp at hx; exact ⟨C3, _, hx.symm, X9 _ _ eC8 oC3.1 oC3.2.2, .inr (.inr rfl)⟩
        | jo + 3, hx => simp at hx
      refine rest _ _ ⟨_, _, La, l, t + 5, rfl, D9, by omega, (x5.trans (Ext.of s58)).trans X9, eLa, ch_three hl3⟩
end
end Pv

namespace Pv
open PySem PySem.Spec PyProof.Rows L2 SX
/-! lines and words as the law reads them -/
theorem firstErr_all {ge : Nat → PyData → Option PyData} : ∀ {ds : List PyData} {i : Nat}, firstErr ge i ds = none → ∀ j d, ds[j]? = some d → ge (i + j) d = none
  | [], _, _, _, _, h => by simp at h
  | x :: ds, i, h, j, d, hd => by
    unfold firstErr at h
    cases e : ge i x with
    | some _ => rw [e] at h; cases h
    | none =>
      rw [e] at h
      cases j with
      | zero => simp at hd; subst hd; exact e
      | succ j => rw [show i + (j + 1) = i + 1 + j by omega]; exact firstErr_all (ds := ds) (i := i + 1) h j d (by simpa using hd)
theorem within_pn {lo hi : Int} (h0 : 0 ≤ lo) (h1 : hi ≤ 10 ^ 12) (a : List Nat) : withinD lo hi (oD (pnO a)) = true ↔ (lo ≤ lnO a ∧ lnO a ≤ hi) := by
  rw [← pn_in h0 h1]
  constructor
  · intro h
    cases e : pnO a with
    | none => rw [e] at h; cases h
    | some i => rw [e] at h; exact ⟨i, rfl, of_decide_eq_true h⟩
  · rintro ⟨i, e, h⟩
    rw [e]
    exact decide_eq_true h
theorem dWs_ln {lo hi : Int} (h0 : 0 ≤ lo) (h1 : hi ≤ 10 ^ 12) {ws : List (List Nat)} (h : ∀ w ∈ ws, lo ≤ lnO w ∧ lnO w ≤ hi) : dWs ws = (ws.map lnO).map PyData.int := by
  unfold dWs
  rw [List.map_map]
  refine List.map_congr_left fun w hw => ?_
  rw [pn_eq h0 h1 (h w hw)]; rfl
theorem posts_ln (ws : List (List Nat)) : postsE (.tuple (dWs ws)) = none ↔ (1 ≤ ws.length ∧ ws.length ≤ 6 ∧ ∀ w ∈ ws, 1 ≤ lnO w ∧ lnO w ≤ 10 ^ 12) := by
  have hl : (dWs ws).length = ws.length := by simp [dWs]
  unfold postsE
  by_cases ht : 1 ≤ ws.length ∧ ws.length ≤ 6
  · have : tupOfD 1 6 (.tuple (dWs ws)) = true := decide_eq_true (by rw [hl]; omega)
    rw [if_pos this]
    constructor
    · intro h
      refine ⟨ht.1, ht.2, fun w hw => ?_⟩
      obtain ⟨j, hj, e⟩ := List.getElem_of_mem hw
      have hd : (tupItems (.tuple (dWs ws)))[j]? = some (oD (pnO w)) := by
        show (dWs ws)[j]? = _
        unfold dWs
        rw [List.getElem?_map, List.getElem?_eq_getElem hj, e]; rfl
      have h2 := firstErr_all h j _ hd
      unfold capE at h2
      split at h2
      · rename_i hw2
        exact (within_pn (lo := 1) (hi := bigI) (by decide) (by decide) w).mp hw2
      · cases h2
    · rintro ⟨_, _, h⟩
      refine firstErr_none fun j d hd => ?_
      have hd : (dWs ws)[j]? = some d := hd
      unfold dWs at hd
      rw [List.getElem?_map] at hd
      obtain ⟨w, hw, rfl⟩ := Option.map_eq_some_iff.mp hd
      unfold capE
      rw [if_pos ((within_pn (lo := 1) (hi := bigI) (by decide) (by decide) w).mpr (h w (List.mem_of_getElem? hw)))]
  · have : ¬ tupOfD 1 6 (.tuple (dWs ws)) = true := fun e => ht (by have := of_decide_eq_true e; rw [hl] at this; omega)
    rw [if_neg this]
    constructor
    · intro h; cases h
    · rintro ⟨a, b, _⟩; exact absurd ⟨a, b⟩ ht
def lpD (a : List Nat) : PyData := match wds 32 a with
  | [] => .none
  | w0 :: ws => if w0 = [112, 111, 115, 116, 115] ∧ 1 ≤ ws.length ∧ ws.length ≤ 6 ∧ ∀ w ∈ ws, 1 ≤ lnO w ∧ lnO w ≤ 10 ^ 12 then dI (ws.map lnO) else .none
theorem pp_lp (a : List Nat) : ppD a = lpD a := by
  unfold ppD lpD
  cases ew : wds 32 a with
  | nil => rfl
  | cons w0 ws =>
    dsimp only
    by_cases h : w0 = [112, 111, 115, 116, 115] ∧ 1 ≤ ws.length ∧ ws.length ≤ 6 ∧ ∀ w ∈ ws, 1 ≤ lnO w ∧ lnO w ≤ 10 ^ 12
    · rw [if_pos h, if_pos ⟨h.1, (posts_ln ws).mpr h.2⟩, dWs_ln (lo := 1) (hi := 10 ^ 12) (by decide) (by decide) h.2.2.2]; rfl
    · rw [if_neg h, if_neg fun e => h ⟨e.1, (posts_ln ws).mp e.2⟩]
theorem list_ln {n : Int} (hn : n ≤ 10 ^ 12) (ws : List (List Nat)) : listD n (.tuple (dWs ws)) = true ↔ ((∀ w ∈ ws, 0 ≤ lnO w ∧ lnO w < n) ∧ (ws.map lnO).Nodup) := by
  constructor
  · intro h
    have hall : ∀ w ∈ ws, 0 ≤ lnO w ∧ lnO w ≤ n - 1 := by
      intro w hw
      by_cases z : (dWs ws).all (withinD 0 (n - 1)) = true
      · have hm : oD (pnO w) ∈ dWs ws := List.mem_map.mpr ⟨w, hw, rfl⟩
        exact (within_pn (lo := 0) (hi := n - 1) (by decide) (by omega) w).mp (List.all_eq_true.mp z _ hm)
      · rw [listD_out (by simpa using z)] at h; cases h
    have e := dWs_ln (lo := 0) (hi := n - 1) (by decide) (show n - 1 ≤ 10 ^ 12 by omega) hall
    rw [e, listD_ints, Bool.and_eq_true] at h
    exact ⟨fun w hw => by have := hall w hw; omega, of_decide_eq_true h.2⟩
  · rintro ⟨h1, h2⟩
    have e := dWs_ln (lo := 0) (hi := n - 1) (by decide) (show n - 1 ≤ 10 ^ 12 by omega) (fun w hw => by have := h1 w hw; omega)
    rw [e, listD_ints, Bool.and_eq_true]
    refine ⟨List.all_eq_true.mpr fun x hx => decide_eq_true ?_, decide_eq_true h2⟩
    obtain ⟨w, hw, rfl⟩ := List.mem_map.mp hx
    have := h1 w hw
    omega
def lgD (n : Nat) (a : List Nat) : PyData := match wds 32 a with
  | [] => .none
  | w0 :: ws => if w0.getLast? = some 58 ∧ (1 ≤ lnO w0.dropLast ∧ lnO w0.dropLast ≤ 10 ^ 12) ∧ (∀ w ∈ ws, 0 ≤ lnO w ∧ lnO w < n) ∧ (ws.map lnO).Nodup then dGrp (ws.map lnO, lnO w0.dropLast) else .none
theorem group_ln {n : Nat} (hn : n ≤ 50) (w0 : List Nat) (ws : List (List Nat)) : groupsE n (.tuple [gD w0 ws]) = none ↔ ((1 ≤ lnO w0.dropLast ∧ lnO w0.dropLast ≤ 10 ^ 12) ∧ (∀ w ∈ ws, 0 ≤ lnO w ∧ lnO w < n) ∧ (ws.map lnO).Nodup) := by
  have e1 : groupsE n (.tuple [gD w0 ws]) = grpE n 0 (gD w0 ws) := by
    unfold groupsE
    rw [if_pos (by simp [tupOfD])]
    show firstErr (grpE n) 0 [gD w0 ws] = _
    unfold firstErr
    cases grpE n 0 (gD w0 ws) <;> rfl
  have hw := within_pn (lo := 1) (hi := bigI) (by decide) (by decide) w0.dropLast
  have hl := list_ln (n := n) (by omega) ws
  rw [e1]
  show (if listD n (.tuple (dWs ws)) = true then (if withinD 1 bigI (oD (pnO w0.dropLast)) = true then none else some _) else some _) = none ↔ _
  by_cases z1 : listD n (.tuple (dWs ws)) = true
  · rw [if_pos z1]
    by_cases z2 : withinD 1 bigI (oD (pnO w0.dropLast)) = true
    · rw [if_pos z2]
      exact ⟨fun _ => ⟨hw.mp z2, hl.mp z1⟩, fun _ => rfl⟩
    · rw [if_neg z2]
      exact ⟨(fun h => by cases h), fun h => absurd (hw.mpr h.1) z2⟩
  · rw [if_neg z1]
    exact ⟨(fun h => by cases h), fun h => absurd (hl.mpr h.2) z1⟩
theorem pg_lg {n : Nat} (hn : n ≤ 50) (a : List Nat) : pgD n a = lgD n a := by
  unfold pgD lgD
  cases ew : wds 32 a with
  | nil => rfl
  | cons w0 ws =>
    dsimp only
    by_cases h : w0.getLast? = some 58 ∧ (1 ≤ lnO w0.dropLast ∧ lnO w0.dropLast ≤ 10 ^ 12) ∧ (∀ w ∈ ws, 0 ≤ lnO w ∧ lnO w < n) ∧ (ws.map lnO).Nodup
    · rw [if_pos h, if_pos ⟨h.1, (group_ln hn w0 ws).mpr h.2⟩]
      unfold gD dGrp dI
      rw [dWs_ln (lo := 0) (hi := (n : Int) - 1) (by decide) (show (n : Int) - 1 ≤ 10 ^ 12 by omega) (fun w hw => by have := h.2.2.1 w hw; omega), pn_eq (lo := 1) (hi := 10 ^ 12) (by decide) (by decide) h.2.1]; rfl
    · rw [if_neg h, if_neg fun e => h ⟨e.1, (group_ln hn w0 ws).mp e.2⟩]
theorem lgD_cases (n : Nat) (a : List Nat) : lgD n a = .none ∨ ∃ g, lgD n a = dGrp g := by
  unfold lgD
  split
  · exact .inl rfl
  · split
    · exact .inr ⟨_, rfl⟩
    · exact .inl rfl
end Pv

namespace Pv
open PySem PySem.Spec PyProof.Rows L2 SX
/-! assignments that fill up in any order: sums by posts -/
theorem DpAll.set {K : PySem.W.Frag} {H : Hp} : ∀ {vs : List V} {ds : List PyData} {v : V} {d : PyData} (i : Nat), DpAll K H vs ds → Dp K H v d → DpAll K H (vs.set i v) (ds.set i d)
  | _, _, _, _, _, .nil, _ => .nil
  | _, _, _, _, 0, .cons _ t, h => .cons h t
  | _, _, _, _, i + 1, .cons a t, h => .cons a (DpAll.set i t h)
theorem sumSet : ∀ {l : List Int} {i : Nat} {x y : Int}, l[i]? = some y → (l.set i x).sum = l.sum - y + x
  | [], _, _, _, h => by simp at h
  | a :: l, 0, x, y, h => by simp at h; subst h; simp; omega
  | a :: l, i + 1, x, y, h => by
    have := sumSet (l := l) (i := i) (x := x) (y := y) (by simpa using h)
    simp only [List.set_cons_succ, List.sum_cons]; omega
def rl (p : Nat) (ps row : List Int) : Int := ((ps.zip row).map fun q => if q.1.toNat = p then q.2 else 0).sum
def gl (p : Nat) (gs : List Gp) (rows : List (List Int)) : Int := ((gs.zip rows).map fun q => rl p q.1.1 q.2).sum
theorem rl_set (p : Nat) : ∀ {ps row : List Int} {o pn : Nat} {x y : Int}, ps[o]? = some (pn : Int) → row[o]? = some y → rl p ps (row.set o x) = rl p ps row + if pn = p then x - y else 0
  | [], _, _, _, _, _, h, _ => by simp at h
  | _ :: _, [], _, _, _, _, _, h => by simp at h
  | q :: ps, z :: row, 0, pn, x, y, h1, h2 => by
    simp at h1 h2
    subst h1 h2
    simp only [rl, List.set_cons_zero, List.zip_cons_cons, List.map_cons, List.sum_cons, Int.toNat_natCast]
    split <;> omega
  | q :: ps, z :: row, o + 1, pn, x, y, h1, h2 => by
    have := rl_set p (ps := ps) (row := row) (o := o) (pn := pn) (x := x) (y := y) (by simpa using h1) (by simpa using h2)
    simp only [rl] at this ⊢
    simp only [List.set_cons_succ, List.zip_cons_cons, List.map_cons, List.sum_cons]
    omega
theorem rl_end (p : Nat) : ∀ {ps row : List Int} {o : Nat} {x : Int}, ps.length ≤ o → rl p ps (row.set o x) = rl p ps row
  | [], _, _, _, _ => by simp [rl]
  | q :: ps, [], _, _, _ => by simp [rl]
  | q :: ps, z :: row, 0, _, h => by simp at h
  | q :: ps, z :: row, o + 1, x, h => by
    have := rl_end p (ps := ps) (row := row) (o := o) (x := x) (by simpa using h)
    simp only [rl] at this ⊢
    simp only [List.set_cons_succ, List.zip_cons_cons, List.map_cons, List.sum_cons]
    omega
theorem rl_zeros (p : Nat) : ∀ (ps : List Int) (n : Nat), rl p ps (zeros n) = 0
  | [], _ => by simp [rl]
  | q :: ps, 0 => by simp [rl, zeros]
  | q :: ps, n + 1 => by
    have := rl_zeros p ps n
    simp only [rl, zeros, List.replicate_succ, List.zip_cons_cons, List.map_cons, List.sum_cons] at this ⊢
    split <;> omega
theorem gl_set (p : Nat) : ∀ {gs : List Gp} {rows : List (List Int)} {k : Nat} {g : Gp} {new old : List Int}, gs[k]? = some g → rows[k]? = some old → gl p gs (rows.set k new) = gl p gs rows + rl p g.1 new - rl p g.1 old
  | [], _, _, _, _, _, h, _ => by simp at h
  | _ :: _, [], _, _, _, _, _, h => by simp at h
  | g0 :: gs, r :: rows, 0, g, new, old, h1, h2 => by
    simp at h1 h2
    subst h1 h2
    simp only [gl, List.set_cons_zero, List.zip_cons_cons, List.map_cons, List.sum_cons]
    omega
  | g0 :: gs, r :: rows, k + 1, g, new, old, h1, h2 => by
    have := gl_set p (gs := gs) (rows := rows) (k := k) (g := g) (new := new) (old := old) (by simpa using h1) (by simpa using h2)
    simp only [gl] at this ⊢
    simp only [List.set_cons_succ, List.zip_cons_cons, List.map_cons, List.sum_cons]
    omega
theorem gl_none (p : Nat) : ∀ (gs : List Gp) (n : Nat), gl p gs (List.replicate n []) = 0
  | [], _ => by simp [gl]
  | g :: gs, 0 => by simp [gl]
  | g :: gs, n + 1 => by
    have := gl_none p gs n
    simp only [gl, List.replicate_succ, List.zip_cons_cons, List.map_cons, List.sum_cons] at this ⊢
    have h0 : rl p g.1 [] = 0 := by simp [rl]
    omega
theorem addAt_getD {ls : List Int} {p : Nat} (q x : Int) (hp : p < ls.length) : (addAt ls q x).getD p 0 = ls.getD p 0 + if q.toNat = p then x else 0 := by
  unfold addAt
  simp only [List.getD_eq_getElem?_getD]
  by_cases h : q.toNat = p
  · subst h
    rw [if_pos rfl, List.getElem?_set_self hp, List.getElem?_eq_getElem hp]
    rfl
  · rw [if_neg h, List.getElem?_set_ne h]; omega
theorem rowLoads_getD {p : Nat} : ∀ (z : List (Int × Int)) (ls : List Int), p < ls.length → (z.foldl (fun l q => addAt l q.1 q.2) ls).getD p 0 = ls.getD p 0 + (z.map fun q => if q.1.toNat = p then q.2 else 0).sum
  | [], ls, _ => by simp
  | q :: z, ls, h => by
    rw [List.foldl_cons, rowLoads_getD z _ (by rw [addAt_len]; exact h), addAt_getD _ _ h, List.map_cons, List.sum_cons]
    omega
theorem loadsFrom_getD {p : Nat} : ∀ (z : List (Gp × List Int)) (ls : List Int), p < ls.length → (z.foldl (fun l q => rowLoads l q.1.1 q.2) ls).getD p 0 = ls.getD p 0 + (z.map fun q => rl p q.1.1 q.2).sum
  | [], ls, _ => by simp
  | q :: z, ls, h => by
    rw [List.foldl_cons, loadsFrom_getD z _ (by rw [rowLoads_len]; exact h), List.map_cons, List.sum_cons]
    have : (rowLoads ls q.1.1 q.2).getD p 0 = ls.getD p 0 + rl p q.1.1 q.2 := rowLoads_getD _ _ h
    omega
theorem loadsOf_getD {p n : Nat} (gs : List Gp) (rows : List (List Int)) (h : p < n) : (loadsOf n gs rows).getD p 0 = gl p gs rows := by
  have := loadsFrom_getD (p := p) (gs.zip rows) (zeros n) (by simpa [zeros] using h)
  unfold loadsOf loadsFrom
  rw [this]
  simp only [gl, zeros, List.getD_eq_getElem?_getD, List.getElem?_replicate]
  rw [if_pos h]
  simp
theorem all_in {n : Nat} {ms : List Int} (hn : ms.Nodup) (hm : ∀ x ∈ ms, x ∈ upTo n) (hl : ms.length = n) {k : Nat} (hk : k < n) : (k : Int) ∈ ms := by
  by_cases h : (k : Int) ∈ ms
  · exact h
  · exfalso
    have key : ∀ (n : Nat) (ms : List Int), ms.Nodup → (∀ x ∈ ms, 0 ≤ x ∧ x < (n : Int)) → ms.length ≤ n := by
      intro n
      induction n with
      | zero =>
        intro ms _ hb
        cases ms with
        | nil => simp
        | cons x ms => have := hb x (List.mem_cons_self ..); omega
      | succ n ih =>
        intro ms hnd hb
        have h1 := ih (ms.erase (n : Int)) (hnd.erase _) (fun x hx => by
          have := (List.Nodup.mem_erase_iff hnd).mp hx
          have := hb x this.2
          omega)
        have h2 := List.length_erase (a := (n : Int)) (l := ms)
        split at h2 <;> omega
    have := key n ((k : Int) :: ms) (List.nodup_cons.mpr ⟨h, hn⟩) (fun x hx => by
      rcases List.mem_cons.mp hx with e | e
      · omega
      · exact upTo_mem (hm x e))
    rw [List.length_cons] at this
    omega
theorem mem_take_succ {ms : List Int} {j : Nat} {x y : Int} (h : ms[j]? = some x) : y ∈ ms.take (j + 1) ↔ y ∈ ms.take j ∨ y = x := by
  rw [take_snoc h, List.mem_append, List.mem_singleton]
theorem not_before {ms : List Int} (hn : ms.Nodup) {j : Nat} {x : Int} (h : ms[j]? = some x) : x ∉ ms.take j := by
  intro hx
  obtain ⟨i, hi, e⟩ := List.getElem_of_mem hx
  rw [List.length_take] at hi
  rw [List.getElem_take] at e
  have hj := (List.getElem?_eq_some_iff.mp h)
  obtain ⟨hj1, hj2⟩ := hj
  have := (List.getElem_inj hn).mp (e.trans hj2.symm)
  omega
/-- what a drawn assignment is -/
theorem isAD_rows {cs : List Int} {gs : List Gp} {rows : List (List Int)} (hl : rows.length = gs.length) (hr : ∀ (k : Nat) (g : Gp) (row : List Int), gs[k]? = some g → rows[k]? = some row → row.length = g.1.length + 1 ∧ shareOk g.2 row = true)
    (hp : ∀ p, p < cs.length → gl p gs rows ≤ cs.getD p 0) : isAD cs gs (dAsg rows) = true := by
  unfold dAsg
  rw [isAD_tup]
  have e : (rows.map dI).map rowD = rows := by
    rw [List.map_map]
    have : (rowD ∘ dI) = id := by funext r; simp [rowD, dI, intsOf, intsAll_ints]
    rw [this, List.map_id]
  rw [e, List.length_map, decide_eq_true hl, Bool.true_and, Bool.and_eq_true]
  constructor
  · rw [List.all_eq_true]
    intro q hq
    obtain ⟨k, hk, e⟩ := List.getElem_of_mem hq
    have h1 := List.getElem?_eq_getElem hk
    rw [e, List.getElem?_zip_eq_some] at h1
    obtain ⟨h2, h3⟩ := h1
    rw [List.getElem?_map] at h3
    obtain ⟨row, h4, h5⟩ := Option.map_eq_some_iff.mp h3
    obtain ⟨h6, h7⟩ := hr k _ _ h2 h4
    rw [← h5, shareD_dI, decide_eq_true h6, h7]; rfl
  · rw [List.all_eq_true]
    intro q hq
    obtain ⟨k, hk, e⟩ := List.getElem_of_mem hq
    have h1 := List.getElem?_eq_getElem hk
    rw [e, List.getElem?_zip_eq_some] at h1
    obtain ⟨h2, h3⟩ := h1
    have hk' : k < cs.length := (List.getElem?_eq_some_iff.mp h3).1
    have := hp k hk'
    rw [← loadsOf_getD gs rows hk', List.getD_eq_getElem?_getD, h2, List.getD_eq_getElem?_getD, h3] at this
    exact decide_eq_true this
end Pv

namespace Pv
open PySem PySem.Spec PyProof.Rows L2 SX
abbrev sAs : Stmt := topS 28
theorem scAs : FnScope ["_law_deck_here", "_law_instance_here", "_law_space", "_law_rows", "_law_group", "_law_wish", "_law_left", "_law_row_here", "_law_option", "_law_most"] ["_law_deck_here", "_law_instance_here"] (defScope sAs) := ⟨rfl, rfl, rfl, by decide +kernel, rfl, by decide +kernel, by decide +kernel⟩
theorem DS.off2 {H : Hp} {st c r p : Addr} {t : Nat} {o : HO} (_ : DS H st c r t) (_ : H p = some o) (h1 : p ≠ st) (h2 : p ≠ r) : p ≠ st ∧ p ≠ r := ⟨h1, h2⟩
section
variable {P : Program} {w : World} {K : PySem.W.Frag} {mg : Str → Option Value} {base : Heap}
def spMixN (K : PySem.W.Frag) : Sp := fun vs H Q _ => ∃ (st c r l : Addr) (t : Nat) (ns : List Int), vs = [.ref st, .ref l] ∧ DS H st c r t ∧ t + 50 ≤ 1000000 ∧ H l = some (.lst (ns.map V.int)) ∧ ns.length ≤ 50 ∧
  ∀ (H' : Hp) (p : Addr) (ms : List Int), (∀ x ∈ ms, x ∈ ns) → (ns.Nodup → ms.Nodup) → ms.length = ns.length → H' p = some (.lst (ms.map V.int)) → p ≠ st → p ≠ c → p ≠ r → H p = none → DS H' st c r (t + ns.length) → Ext st r H H' → Q (.ref p) H'
set_option maxHeartbeats 2000000 in
theorem ok_mixN {f fD : Addr} {fd fdD : FuncData} {k : Nat} (F : Fun K "_law_mixed" "_law_mixed" sMix f fd)
    (FD : Fun K "_law_next" "_law_next" sDraw fD fdD) (bD : Binds K fdD ["_law_deck_here", "_law_many"] []) (gD : mg "_law_next" = some (.ref fD)) (GD : FnOk P w K mg base CX0 1 fD fdD ["_law_deck_here", "_law_many"] spDraw)
    (mli : mg "list" = none) (ml : mg "len" = none) : FnOk P w K mg base CX0 (1 + k + 1) f fd ["_law_deck_here", "_law_items"] (spMixN K) := by
  refine F.ok scMix (fun vs H Q E h => ?_) (fun cdv A outer s H vs Q E hr h => ?_)
  · obtain ⟨st, c, r, l, t, ns, rfl, _⟩ := h; rfl
  · obtain ⟨st, c, r, l, t, ns, rfl, hd, ht, hl, hn, q⟩ := h
    have hu64 : (A.deeper (envOfC "_law_mixed" (defScope sMix) s.heap.objs.size f cdv)).units + 64 < cLine := by have := hr.un; omega
    refine ⟨_, pss_cons (ps_par (i := 2) (j := 3) rfl scMix.nd rfl rfl (by decide) rfl rfl (pa_cons (pe_callTy call_list_of (by rfl) mli (by decide +kernel) (pa_cons (pv 1) pa_nil)) (pa_cons (pe_lst pa_nil) pa_nil)) rfl)
      (pss_cons (ps_while PassesOwn.never (pt_cmpR (op_neD hu64) (pv 2) (pe_lst pa_nil) (nomark _))
        (pss_one (ps_expr (pe_bm PySem.F.plainAttrs_list PySem.F.slot_list_append PySem.F.type_list_append mt_append (pv 3) (pa_cons
          (pe_bm PySem.F.plainAttrs_list PySem.F.slot_list_pop PySem.F.type_list_pop mt_popAt (pv 2) (pa_cons (pe_call GD (hr.mono (by omega)) (by rfl) gD FD.kp bD .nil pass0 (pa_cons (pv 0) (pa_cons (pe_callB call_len_seq (by rfl) ml PySem.boot_len (pa_cons (pv 2) pa_nil)) pa_nil))) pa_nil)) pa_nil)))))
      (pss_one (ps_ret (pv 3)))), ?_⟩
    refine ⟨.ref l, rfl, l, _, rfl, .inl (SqL.of hl), fun Le nLe => ⟨Nat.zero_le _, fun Fo nFo => ⟨_, _, rfl, ?_⟩⟩⟩
    have oLe := hd.off nLe
    have d1 := hd.new nLe (o := .lst (ns.map V.int))
    have oFo := d1.off nFo
    have fFo : H Fo = none := freeOf nFo
    have nLF : Le ≠ Fo := ne_of_none upd_same nFo
    refine ⟨fun m σ H2 => ∃ (ls ms : List Int) (t2 : Nat), σ = [some (.ref st), some (.ref l), some (.ref Le), some (.ref Fo)] ∧ ls.length = m ∧ DS H2 st c r t2 ∧ t2 = t + ms.length ∧ Ext st r H H2 ∧
        H2 Le = some (.lst (ls.map V.int)) ∧ H2 Fo = some (.lst (ms.map V.int)) ∧ ls.length + ms.length = ns.length ∧ (∀ x ∈ ls, x ∈ ns) ∧ (∀ x ∈ ms, x ∈ ns) ∧ (ns.Nodup → (ms ++ ls).Nodup),
      ⟨ns.length, ns, [], t, rfl, rfl, d1.new nFo, rfl, (Ext.of (sameNew nLe)).trans (Ext.of (sameNew nFo)), upNew nFo upd_same, upd_same, rfl, fun x h => h, fun x h => by simp at h, fun h => by simpa using h⟩, ?_⟩
    rintro m σ H2 ⟨ls, ms, t2, rfl, rfl, d2, ht2, x2, eL, eF, hlen, bl, bm, bn⟩
    refine ⟨.ref Le, rfl, Nat.zero_le _, fun p np => ⟨.list (ls.map PyData.int), .list [], .lst (SqL.of (upNew np eL)) (dp_ints ls), .lst (SqL.of upd_same) .nil, shaped_ints ls, by decide, _, rfl, ?_⟩⟩
    rw [eqv_empty]
    have oN := d2.off np
    have eL2 := upNew np (o := .lst []) eL
    have eF2 := upNew np (o := .lst []) eF
    cases ls with
    | nil =>
      have hml : ms.length = ns.length := by simpa using hlen
      have dz : DS (upd H2 p (.lst [])) st c r (t + ns.length) := by rw [← hml, ← ht2]; exact d2.new np
      exact ⟨.ref Fo, rfl, q _ Fo ms bm (fun z => by simpa using bn z) hml eF2 oFo.1 oFo.2.1 oFo.2.2 fFo dz (x2.trans (Ext.of (sameNew np)))⟩
    | cons a ls' =>
      have hpos : 0 < (a :: ls').length := by simp
      refine ⟨fun σ' H' => ∃ (ls2 ms2 : List Int) (t2 : Nat), σ' = [some (.ref st), some (.ref l), some (.ref Le), some (.ref Fo)] ∧ ls2.length = ls'.length ∧ DS H' st c r t2 ∧ t2 = t + ms2.length ∧ Ext st r H H' ∧
        H' Le = some (.lst (ls2.map V.int)) ∧ H' Fo = some (.lst (ms2.map V.int)) ∧ ls2.length + ms2.length = ns.length ∧ (∀ x ∈ ls2, x ∈ ns) ∧ (∀ x ∈ ms2, x ∈ ns) ∧ (ns.Nodup → (ms2 ++ ls2).Nodup), ?_, ?_⟩
      · rintro σ' H' ⟨ls2, ms2, t3, e1, e2, r3⟩
        exact ⟨ls'.length, by simp, ls2, ms2, t3, e1, e2, r3⟩
      · refine ⟨.ref Fo, rfl, .inl ⟨rfl, _, SqL.of eF2⟩, .ref Le, rfl, .inl ⟨rfl, _, SqL.of eL2⟩, .ref st, rfl, .ref Le, rfl, Le, _, rfl, .inl (SqL.of eL2), st, c, r, t2, _, rfl, d2.new np, by omega, by rw [List.length_map]; omega, by rw [List.length_map]; omega, fun H3 d h0 h1 D3 X3 => ?_⟩
        have eL3 := X3 _ _ eL2 oLe.1 oLe.2.2
        have eF3 := X3 _ _ eF2 oFo.1 oFo.2.2
        rw [List.length_map] at h1
        have hk : d.toNat < (a :: ls').length := by omega
        have eF4 : (upd H3 Le (.lst (((a :: ls').map V.int).eraseIdx d.toNat))) Fo = some (.lst (ms.map V.int)) := by rw [upd_ne nLF.symm]; exact eF3
        refine ⟨Le, _, d, d.toNat, .int (a :: ls')[d.toNat], rfl, rfl, eL3, by omega, by simp at hlen h1; omega, seqIndex_of h0 (by rw [List.length_map]; exact h1), by rw [List.getElem?_map, List.getElem?_eq_getElem hk]; rfl, Fo, _, _, rfl, rfl, eF4, ?_, ?_⟩
        · rw [List.length_map]; exact small (by simp at hlen; omega)
        refine ⟨(a :: ls').eraseIdx d.toNat, ms ++ [(a :: ls')[d.toNat]], t2 + 1, rfl, ?_, (D3.put oLe.1 oLe.2.1 oLe.2.2).put oFo.1 oFo.2.1 oFo.2.2, by simp; omega, ExtPut (ExtPut ((x2.trans (Ext.of (sameNew np))).trans X3) nLe) fFo, ?_, ?_, ?_, ?_, ?_, fun z => nodup_step hk (bn z)⟩
        · rw [List.length_eraseIdx_of_lt hk]; simp
        · rw [upd_ne nLF, upd_same, erase_map]
        · rw [upd_same, List.map_append]; rfl
        · rw [List.length_eraseIdx_of_lt hk]; simp at hlen ⊢; omega
        · exact fun x hx => bl x (List.mem_of_mem_eraseIdx hx)
        · intro x hx
          rw [List.mem_append] at hx
          rcases hx with h | h
          · exact bm x h
          · simp only [List.mem_singleton] at h; rw [h]; exact bl _ (List.getElem_mem hk)
def spAs (K : PySem.W.Frag) : Sp := fun vs H Q _ => ∃ (st c r i : Addr) (t : Nat) (cs : List Int) (gs : List Gp), vs = [.ref st, .ref i] ∧ DS H st c r t ∧ t + 300 ≤ 1000000 ∧ Dp K H (.ref i) (dInst cs gs) ∧ InsOk cs gs ∧
  ∀ (H' : Hp) (p : Addr) (t' : Nat) (rows : List (List Int)), DS H' st c r t' → t' ≤ t + 300 → Ext st r H H' → Dp K H' (.ref p) (dAsg rows) → isAD cs gs (dAsg rows) = true → Q (.ref p) H'
set_option maxHeartbeats 4000000 in
theorem ok_As {f fMx fDr fOn : Addr} {fd fdMx fdDr fdOn : FuncData} (F : Fun K "_law_assignment" "_law_assignment" sAs f fd)
    (FMx : Fun K "_law_mixed" "_law_mixed" sMix fMx fdMx) (bMx : Binds K fdMx ["_law_deck_here", "_law_items"] []) (gMx : mg "_law_mixed" = some (.ref fMx)) (GMx : FnOk P w K mg base CX0 2 fMx fdMx ["_law_deck_here", "_law_items"] (spMixN K))
    (FDr : Fun K "_law_next" "_law_next" sDraw fDr fdDr) (bDr : Binds K fdDr ["_law_deck_here", "_law_many"] []) (gDr : mg "_law_next" = some (.ref fDr)) (GDr : FnOk P w K mg base CX0 1 fDr fdDr ["_law_deck_here", "_law_many"] spDraw)
    (FOn : Fun K "_law_one" "_law_one" sOne fOn fdOn) (bOn : Binds K fdOn ["_law_deck_here", "_law_items"] []) (gOn : mg "_law_one" = some (.ref fOn)) (GOn : FnOk P w K mg base CX0 2 fOn fdOn ["_law_deck_here", "_law_items"] (spOne K))
    (m_list : mg "list" = none) (m_len : mg "len" = none) (m_range : mg "range" = none) (m_min : mg "min" = none) (m_tuple : mg "tuple" = none) :
    FnOk P w K mg base CX0 3 f fd ["_law_deck_here", "_law_instance_here"] (spAs K) := by
  refine F.ok scAs (fun vs H Q E h => ?_) (fun cdv A outer s H vs Q E hr h => ?_)
  · obtain ⟨st, c, r, i, t, cs, gs, rfl, _⟩ := h; rfl
  · obtain ⟨st, c, r, i, t, cs, gs, rfl, hd, ht, hI, ok, q⟩ := h
    refine ⟨_, pss_cons (ps_par (i := 2) (j := 3) rfl scAs.nd rfl rfl (by decide) rfl rfl (pa_cons (pe_callTy call_list_of (by rfl) m_list (by decide +kernel) (pa_cons (pe_ix ix_tup (pv 1) (pe_int) (fun _ _ => rfl)) pa_nil)) (pa_cons (pe_op op_rep (pe_lst (pa_cons (pe_tup (pa_nil)) pa_nil)) (pe_callB call_lenQ (by rfl) m_len PySem.boot_len (pa_cons (pe_ix ix_tup (pv 1) (pe_int) (fun _ _ => rfl)) pa_nil))) pa_nil)) rfl)
      (pss_cons (ps_for PassesOwn.never rfl (pi_list (pe_call GMx (hr.mono (by omega)) (by rfl) gMx FMx.kp bMx .nil pass0 (pa_cons (pv 0) (pa_cons (pe_listRg rfl (by rfl) m_list (prg_1 (by rfl) m_range (pe_callB call_lenQ (by rfl) m_len PySem.boot_len (pa_cons (pv 3) pa_nil)))) pa_nil)))) (pg_name (i := 4) scAs.nd rfl (.inl rfl))
        (pss_cons (ps_asg (pe_ix ix_tup (pe_ix ix_tup (pv 1) (pe_int) (fun _ _ => rfl)) (pv 4) (fun _ _ => rfl)) (pg_tup rfl (pgs_cons (pg_name (i := 5) scAs.nd rfl (.inl rfl)) (pgs_cons (pg_name (i := 6) scAs.nd rfl (.inl rfl)) pgs_nil))))
        (pss_cons (ps_set (i := 7) scAs.nd rfl (.inl rfl) (pe_op op_rep (pe_lst (pa_cons (pe_int) pa_nil)) (pe_op op_add (pe_callB call_lenQ (by rfl) m_len PySem.boot_len (pa_cons (pv 5) pa_nil)) (pe_int))))
        (pss_cons (ps_for PassesOwn.never rfl (pi_list (pe_call GMx (hr.mono (by omega)) (by rfl) gMx FMx.kp bMx .nil pass0 (pa_cons (pv 0) (pa_cons (pe_listRg rfl (by rfl) m_list (prg_1 (by rfl) m_range (pe_callB call_lenQ (by rfl) m_len PySem.boot_len (pa_cons (pv 5) pa_nil)))) pa_nil)))) (pg_name (i := 8) scAs.nd rfl (.inl rfl))
          (pss_cons (ps_set (i := 9) scAs.nd rfl (.inl rfl) (pe_callB (call_min2 rfl) (by rfl) m_min (by decide +kernel) (pa_cons (pv 6) (pa_cons (pe_ix ix_list (pv 2) (pe_ix ix_tup (pv 5) (pv 8) (fun _ _ => rfl)) (fun _ _ => rfl)) pa_nil))))
          (pss_cons (ps_asg (pe_call GOn (hr.mono (by omega)) (by rfl) gOn FOn.kp bOn .nil pass0 (pa_cons (pv 0) (pa_cons (pe_lst (pa_cons (pe_int) (pa_cons (pv 9) (pa_cons (pv 9) (pa_cons (pe_call GDr (hr.mono (by omega)) (by rfl) gDr FDr.kp bDr .nil pass0 (pa_cons (pv 0) (pa_cons (pe_op op_add (pv 9) (pe_int)) pa_nil))) pa_nil))))) pa_nil))) (pg_sub (pv 7) (pv 8) set_list))
          (pss_cons (ps_set (i := 6) scAs.nd rfl (.inl rfl) (pe_op op_sub (pv 6) (pe_ix ix_list (pv 7) (pv 8) (fun _ _ => rfl))))
          (pss_one (ps_asg (pe_op op_sub (pe_ix ix_list (pv 2) (pe_ix ix_tup (pv 5) (pv 8) (fun _ _ => rfl)) (fun _ _ => rfl)) (pe_ix ix_list (pv 7) (pv 8) (fun _ _ => rfl))) (pg_sub (pv 2) (pe_ix ix_tup (pv 5) (pv 8) (fun _ _ => rfl)) set_list)))))))
        (pss_cons (ps_asg (pv 6) (pg_sub (pv 7) (pe_un un_neg (pe_int)) set_list))
        (pss_one (ps_asg (pe_callTy call_tupQ (by rfl) m_tuple (by decide +kernel) (pa_cons (pv 7) pa_nil)) (pg_sub (pv 3) (pv 4) set_list))))))))
      (pss_one (ps_ret (pe_callTy call_tupQ (by rfl) m_tuple (by decide +kernel) (pa_cons (pv 3) pa_nil))))), ?_⟩
    obtain ⟨_, ca, ga, xs, e, hi, hc, hg, hgs⟩ := inst_open hI
    cases e
    have lx := DpAll.len hgs
    rw [List.length_map] at lx
    have g10 := ok.g10
    have c6 := ok.c6
    refine ⟨.ref i, rfl, i, _, 0, .ref ca, rfl, rfl, hi, atI_nat (j := 0) rfl, ca, _, rfl, .inr hc, fun Sp nSp => ?_⟩
    have oSp := hd.off nSp
    have d1 := hd.new nSp (o := .lst (cs.map V.int))
    refine ⟨Nat.zero_le _, fun T0 nT0 => ⟨(show (1 : Nat) ≤ sizeLine by decide), fun L1 nL1 => ?_⟩⟩
    have d2 := (d1.new nT0 (o := .tup [])).new nL1 (o := .lst [.ref T0])
    have s2 := ((sameNew (o := .lst (cs.map V.int)) nSp).trans (sameNew (o := .tup []) nT0)).trans (sameNew (o := .lst [.ref T0]) nL1)
    have eSp2 := upNew nL1 (o := .lst [.ref T0]) (upNew nT0 (o := .tup []) (upd_same (a := Sp) (H := H) (o := .lst (cs.map V.int))))
    have eT2 := upNew nL1 (o := .lst [.ref T0]) (upd_same (a := T0) (H := upd H Sp (.lst (cs.map V.int))) (o := .tup []))
    have eL2 := upd_same (a := L1) (H := upd (upd H Sp (.lst (cs.map V.int))) T0 (.tup [])) (o := .lst [.ref T0])
    generalize upd (upd (upd H Sp (.lst (cs.map V.int))) T0 (.tup [])) L1 (.lst [.ref T0]) = H2 at d2 s2 eSp2 eT2 eL2 ⊢
    refine ⟨.ref i, rfl, i, _, 1, .ref ga, rfl, rfl, sqS s2 hi, atI_nat (j := 1) rfl, ga, _, rfl, .inr (sqS s2 hg), L1, _, _, rfl, rfl, eL2, by omega, by omega, ?_, fun Rw nRw => ⟨_, _, rfl, ?_⟩⟩
    · rw [lx]; have := small (n := gs.length) (by omega); simp; omega
    rw [lx]
    have oRw := d2.off nRw
    have hrep : (List.replicate ((gs.length : Nat) : Int).toNat [V.ref T0]).flatten = List.replicate gs.length (V.ref T0) := by
      rw [Int.toNat_natCast]
      generalize gs.length = n
      induction n with
      | zero => rfl
      | succ n ih => rw [List.replicate_succ, List.flatten_cons, ih]; rfl
    rw [hrep]
    have d3 := d2.new nRw (o := .lst (List.replicate gs.length (V.ref T0)))
    have s3 := s2.trans (sameNew (o := .lst (List.replicate gs.length (V.ref T0))) nRw)
    have eSp3 := upNew nRw (o := .lst (List.replicate gs.length (V.ref T0))) eSp2
    have eT3 := upNew nRw (o := .lst (List.replicate gs.length (V.ref T0))) eT2
    have eR3 := upd_same (a := Rw) (H := H2) (o := .lst (List.replicate gs.length (V.ref T0)))
    generalize upd H2 Rw (.lst (List.replicate gs.length (V.ref T0))) = H3 at d3 s3 eSp3 eT3 eR3 ⊢
    have nSR : Sp ≠ Rw := ne_of_none eSp2 nRw
    refine ⟨.ref st, rfl, .ref Rw, rfl, Rw, _, rfl, .inl (SqL.of eR3), gs.length, by rw [List.length_replicate], RgOk.of_le (by omega) (by omega) (by omega) (by omega), fun Lr nLr => ?_⟩
    refine ⟨st, c, r, Lr, t, upTo gs.length, rfl, d3.new nLr, by omega, by rw [upd_same, rgV_upTo], by rw [upTo_len]; omega, fun H4 Om ms hms hmn hml eO n1 n2 n3 nOm D4 X4 => ?_⟩
    rw [upTo_len] at hml D4
    have hnd := hmn (upTo_nodup _)
    have nOm3 : H3 Om = none := freeOf nOm
    have x34 : Ext st r H3 H4 := (Ext.of (sameNew nLr)).trans X4
    have x4 := (Ext.of s3).trans x34
    have fSp : H Sp = none := nSp
    have fRw : H Rw = none := (Ext.of s2 (st := st) (r := r)).nil d2 nRw
    have fOm : H Om = none := (Ext.of s3 (st := st) (r := r)).nil d3 nOm3
    have nSO : Sp ≠ Om := ne_of_none eSp3 nOm3
    have nRO : Rw ≠ Om := ne_of_none eR3 nOm3
    have eSp4 := x34 _ _ eSp3 oSp.1 oSp.2.2
    have eR4 := x34 _ _ eR3 oRw.1 oRw.2.2
    have eT4 : SqT K H4 T0 (([] : List Int).map V.int) := (x34.tup d3).sq (SqT.of eT3)
    have hv4 : DpAll K H4 (List.replicate gs.length (V.ref T0)) ((List.replicate gs.length ([] : List Int)).map dI) := by
      generalize gs.length = n
      induction n with
      | zero => exact .nil
      | succ n ih => rw [List.replicate_succ, List.replicate_succ, List.map_cons]; exact .cons (dI_sq eT4) ih
    refine ⟨Om, rfl, ⟨_, SqL.of eO⟩, for_it (walk_list (K := K) (a := Om) (xs := ms.map V.int))
      (fun i' σ H5 => ∃ (y4 y5 y6 y7 y8 y9 : Option V) (t' : Nat) (pls : List Int) (vs : List V) (rows : List (List Int)), σ = [some (.ref st), some (.ref i), some (.ref Sp), some (.ref Rw), y4, y5, y6, y7, y8, y9] ∧ DS H5 st c r t' ∧ t' ≤ t + 10 + 20 * i' ∧ Ext st r H H5 ∧
        H5 Om = some (.lst (ms.map V.int)) ∧ H5 Sp = some (.lst (List.map V.int pls)) ∧ pls.length = cs.length ∧ (∀ x ∈ pls, 0 ≤ x ∧ x ≤ 10 ^ 12) ∧ H5 Rw = some (.lst vs) ∧ DpAll K H5 vs (List.map dI rows) ∧ rows.length = gs.length ∧
        (∀ (k : Nat) (g : Gp) (row : List Int), (k : Int) ∈ ms.take i' → gs[k]? = some g → rows[k]? = some row → row.length = g.1.length + 1 ∧ shareOk g.2 row = true) ∧
        (∀ (k : Nat), k < gs.length → (k : Int) ∉ ms.take i' → rows[k]? = some []) ∧ ∀ p, p < cs.length → pls.getD p 0 + gl p gs rows = cs.getD p 0)
      ⟨none, none, none, none, none, none, t + gs.length, cs, _, _, rfl, D4, by omega, x4, eO, eSp4, rfl, fun x hx => ⟨by have := (ok.cb x hx).1; omega, (ok.cb x hx).2⟩, eR4, hv4, by rw [List.length_replicate], (fun k g row h => by simp at h), (fun k hk _ => by rw [List.getElem?_replicate, if_pos hk]), fun p hp => by rw [gl_none]; omega⟩ ?_ ?_ ?_⟩
    · rintro i' σ H5 _ ⟨_, _, _, _, _, _, _, _, _, _, _, _, _, _, eO5, _⟩
      exact SqL.of eO5
    · rintro i' v σ H6 H5 hlt ⟨y4, y5, y6, y7, y8, y9, t', pls, vs, rows, rfl, D5, ht5, x5, eO5, eSp5, lP, bP, eR5, hvs, lrw, hgood, hun, hld⟩ ⟨rfl, hx⟩
      have hx : (ms.map V.int)[i']? = some v := hx
      rw [List.getElem?_map] at hx
      obtain ⟨kI, hkI, rfl⟩ := Option.map_eq_some_iff.mp hx
      have hkb := upTo_mem (hms kI (List.mem_of_getElem? hkI))
      obtain ⟨k, rfl⟩ : ∃ k : Nat, kI = k := ⟨kI.toNat, by omega⟩
      have hkl : k < gs.length := by omega
      have hi10 : i' < 10 := by have := (List.getElem?_eq_some_iff.mp hkI).1; omega
      have hgk : gs[k]? = some gs[k] := List.getElem?_eq_getElem hkl
      obtain ⟨g, eg⟩ : ∃ g, gs[k] = g := ⟨_, rfl⟩
      rw [eg] at hgk
      have hgm := List.mem_of_getElem? hgk
      obtain ⟨gl6, gpr, gc1, gc2⟩ := ok.gp g hgm
      have tk5 := x5.tup hd
      obtain ⟨xv, hxv, hxd⟩ : ∃ xv, xs[k]? = some xv ∧ Dp K H xv (dGrp g) := dp_at hgs (by rw [List.getElem?_map, hgk]; rfl)
      obtain ⟨gA, pA, rfl, hG, hP⟩ := grp_ref hxd
      refine ⟨.ref i, rfl, i, _, 1, .ref ga, rfl, rfl, tk5.sq hi, atI_nat (j := 1) rfl, .int k, rfl, ga, _, _, .ref gA, rfl, rfl, tk5.sq hg, atI_nat hxv, ?_⟩
      refine ⟨gA, _, rfl, tk5.sq hG, rfl, _, _, rfl, _, _, rfl, rfl, ?_⟩
      refine ⟨(show (1 : Nat) ≤ sizeLine by decide), fun L7 nL7 => ⟨.ref pA, rfl, pA, _, rfl, .inr ((tk5.trans (TupK.new nL7)).sq hP), _, _, rfl, rfl, L7, _, _, rfl, rfl, upd_same, by omega, by rw [List.length_map]; omega, ?_, fun Ro nRo => ?_⟩⟩
      · rw [List.length_map]; have := small (n := g.1.length + 1) (by omega); simp; omega
      rw [List.length_map, show (((g.1.length : Nat) : Int) + 1).toNat = g.1.length + 1 by omega, zeros_V]
      have D7 := (D5.new nL7 (o := .lst [.int 0])).new nRo (o := .lst ((zeros (g.1.length + 1)).map V.int))
      have s57 := (sameNew (o := .lst [.int 0]) nL7).trans (sameNew (o := .lst ((zeros (g.1.length + 1)).map V.int)) nRo)
      have nRo5 : H5 Ro = none := freeOf nRo
      have fRo := x5.nil D5 nRo5
      have oRo := D5.off nRo5
      have eRo7 := upd_same (a := Ro) (H := upd H5 L7 (.lst [.int 0])) (o := .lst ((zeros (g.1.length + 1)).map V.int))
      generalize upd (upd H5 L7 (.lst [.int 0])) Ro (.lst ((zeros (g.1.length + 1)).map V.int)) = H7 at D7 s57 eRo7 ⊢
      have tk7 := tk5.trans (TupK.of s57)
      have nSRo : Sp ≠ Ro := ne_of_none eSp5 nRo5
      have nRRo : Rw ≠ Ro := ne_of_none eR5 nRo5
      have nORo : Om ≠ Ro := ne_of_none eO5 nRo5
      refine ⟨.ref st, rfl, .ref pA, rfl, pA, _, rfl, .inr (tk7.sq hP), g.1.length, by rw [List.length_map], RgOk.of_le (by omega) (by omega) (by omega) (by omega), fun L8 nL8 => ?_⟩
      refine ⟨st, c, r, L8, t', upTo g.1.length, rfl, D7.new nL8, by omega, by rw [upd_same, rgV_upTo], by rw [upTo_len]; omega, fun H9 Oo os hos hon hol eOo m1 m2 m3 nOo D9 X9 => ?_⟩
      rw [upTo_len] at hol D9
      have ond := hon (upTo_nodup _)
      have nOo7 : H7 Oo = none := freeOf nOo
      have x79 : Ext st r H7 H9 := (Ext.of (sameNew nL8)).trans X9
      have x59 : Ext st r H5 H9 := (Ext.of s57).trans x79
      have nSOo : Sp ≠ Oo := ne_of_none (s57 _ _ eSp5) nOo7
      have nRoOo : Ro ≠ Oo := ne_of_none eRo7 nOo7
      have nROo : Rw ≠ Oo := ne_of_none (s57 _ _ eR5) nOo7
      have hrk := hun k hkl (not_before hnd hkI)
      refine ⟨Oo, rfl, ⟨_, SqL.of eOo⟩, for_it (walk_list (K := K) (a := Oo) (xs := os.map V.int))
        (fun j σ Hj => ∃ (y8 y9 : Option V) (lft : Int) (tj : Nat) (ps2 row : List Int), σ = [some (.ref st), some (.ref i), some (.ref Sp), some (.ref Rw), some (.int k), some (.ref pA), some (.int lft), some (.ref Ro), y8, y9] ∧ DS Hj st c r tj ∧ tj ≤ t' + 6 + 2 * j ∧
          Ext st r H Hj ∧ TupK H5 Hj ∧ Hj Om = some (.lst (ms.map V.int)) ∧ Hj Oo = some (.lst (os.map V.int)) ∧ Hj Sp = some (.lst (ps2.map V.int)) ∧ ps2.length = cs.length ∧ (∀ x ∈ ps2, 0 ≤ x ∧ x ≤ 10 ^ 12) ∧ Hj Rw = some (.lst vs) ∧
          Hj Ro = some (.lst (row.map V.int)) ∧ row.length = g.1.length + 1 ∧ (∀ x ∈ row, 0 ≤ x ∧ x ≤ g.2) ∧ 0 ≤ lft ∧ lft ≤ g.2 ∧ row.sum + lft = g.2 ∧ (∀ o : Nat, o < g.1.length + 1 → (o : Int) ∉ os.take j → row[o]? = some 0) ∧ ∀ p, p < cs.length → ps2.getD p 0 + gl p gs rows + rl p g.1 row = cs.getD p 0)
        ⟨y8, y9, g.2, t' + g.1.length, pls, zeros (g.1.length + 1), rfl, D9, by omega, x5.trans x59, x59.tup D5, x59 _ _ eO5 (D5.off2 eO5 n1 n3).1 (D5.off2 eO5 n1 n3).2, eOo, x59 _ _ eSp5 oSp.1 oSp.2.2, lP, bP, x59 _ _ eR5 oRw.1 oRw.2.2, x79 _ _ eRo7 oRo.1 oRo.2.2, by simp [zeros], (fun x hx => by have := (List.mem_replicate.mp hx).2; omega), by omega, by omega, by simp [zeros], (fun o ho _ => by simp [zeros, ho]), fun p hp => by rw [rl_zeros]; have := hld p hp; omega⟩ ?_ ?_ ?_⟩
      · rintro j σ Hj _ ⟨_, _, _, _, _, _, _, _, _, _, _, _, e, _⟩
        exact SqL.of e
      · rintro j v σ Hk Hj hltj ⟨y8, y9, lft, tj, ps2, row, rfl, Dj, htj, xj, tkj, eOj, eOoj, eSpj, lPj, bPj, eRj, eRoj, lrow, brow, l0, l1, hsum, hzero, hldj⟩ ⟨rfl, hx2⟩
        have hx2 : (os.map V.int)[j]? = some v := hx2
        rw [List.getElem?_map] at hx2
        obtain ⟨oI, hoI, rfl⟩ := Option.map_eq_some_iff.mp hx2
        have hob := upTo_mem (hos oI (List.mem_of_getElem? hoI))
        obtain ⟨o, rfl⟩ : ∃ o : Nat, oI = o := ⟨oI.toNat, by omega⟩
        have hol' : o < g.1.length := by omega
        have hj6 : j < 6 := by have := (List.getElem?_eq_some_iff.mp hoI).1; omega
        have hpo : g.1[o]? = some g.1[o] := List.getElem?_eq_getElem hol'
        obtain ⟨pI, epI⟩ : ∃ pI, g.1[o] = pI := ⟨_, rfl⟩
        rw [epI] at hpo
        have hpr := gpr pI (List.mem_of_getElem? hpo)
        obtain ⟨pn, rfl⟩ : ∃ pn : Nat, pI = pn := ⟨pI.toNat, by omega⟩
        have hpl : pn < ps2.length := by omega
        have hpv : (ps2.map V.int)[pn]? = some (.int ps2[pn]) := by rw [List.getElem?_map, List.getElem?_eq_getElem hpl]; rfl
        have hpb := bPj ps2[pn] (List.getElem_mem hpl)
        have hov : (g.1.map V.int)[o]? = some (.int pn) := by rw [List.getElem?_map, hpo]; rfl
        have hr0 := hzero o (by omega) (not_before ond hoI)
        have tkH := tk5.trans tkj
        -- most
        refine ⟨.int lft, rfl, .ref Sp, rfl, .ref pA, rfl, .int o, rfl, pA, _, _, .int pn, rfl, rfl, tkH.sq hP, atI_nat hov, Sp, _, _, .int ps2[pn], rfl, rfl, SqL.of eSpj, atI_nat hpv, _, _, rfl, ?_⟩
        obtain ⟨rm, hrm, hr0', hr1, hr2⟩ : ∃ rm : Int, (if ps2[pn] < lft then ps2[pn] else lft) = rm ∧ 0 ≤ rm ∧ rm ≤ lft ∧ rm ≤ ps2[pn] := ⟨_, rfl, by split <;> omega, by split <;> omega, by split <;> omega⟩
        rw [hrm]
        refine ⟨.ref st, rfl, .int rm, rfl, .int rm, rfl, .ref st, rfl, .int rm, rfl, _, _, rfl, rfl, st, c, r, tj, _, rfl, Dj, by omega, by omega, by omega, fun H11 dd h0 h1 D11 X11 => ⟨(show (4 : Nat) ≤ sizeLine by decide), fun Lt nLt => ?_⟩⟩
        have oLt := D11.off nLt
        refine ⟨st, c, r, Lt, tj + 1, _, rfl, D11.new nLt, by omega, upd_same, oLt.1, oLt.2.2, (show (0 : Nat) < 4 by decide), (show (4 : Nat) ≤ 1000 by decide), fun H12 q x hq D12 X12 => ?_⟩
        have x12 := (X11.trans (Ext.of (sameNew nLt))).trans X12
        obtain ⟨d, rfl, hd0, hd1, hd2⟩ : ∃ d : Int, x = .int d ∧ 0 ≤ d ∧ d ≤ lft ∧ d ≤ ps2[pn] := by
          match q, hq with
          | 0, hq => simp at hq; exact ⟨_, hq.symm, by omega, by omega, by omega⟩
          | 1, hq => simp at hq; exact ⟨_, hq.symm, by omega, by omega, by omega⟩
          | 2, hq => simp at hq; exact ⟨_, hq.symm, by omega, by omega, by omega⟩
          | 3, hq => simp at hq; exact ⟨_, hq.symm, by omega, by omega, by omega⟩
          | q + 4, hq => simp at hq
        have eRo12 := x12 _ _ eRoj oRo.1 oRo.2.2
        have eSp12 := x12 _ _ eSpj oSp.1 oSp.2.2
        have eR12 := x12 _ _ eRj oRw.1 oRw.2.2
        have oO := Dj.off2 eOj n1 n3
        have oOo := Dj.off2 eOoj m1 m3
        have eO12 := x12 _ _ eOj oO.1 oO.2
        have eOo12 := x12 _ _ eOoj oOo.1 oOo.2
        refine ⟨.ref Ro, rfl, .int o, rfl, Ro, _, _, o, rfl, rfl, eRo12, ixN_nat (by rw [List.length_map]; omega), ?_⟩
        rw [← List.map_set]
        have tk13 : TupK H12 (upd H12 Ro (.lst ((row.set o d).map V.int))) := TupK.put eRo12
        have eRo13 : (upd H12 Ro (.lst ((row.set o d).map V.int))) Ro = some (.lst ((row.set o d).map V.int)) := upd_same
        have eSp13 : (upd H12 Ro (.lst ((row.set o d).map V.int))) Sp = some (.lst (ps2.map V.int)) := by rw [upd_ne nSRo]; exact eSp12
        have hrv : ((row.set o d).map V.int)[o]? = some (.int d) := by rw [List.getElem?_map, List.getElem?_set_self (by omega)]; rfl
        have tkH13 := (tkH.trans (x12.tup Dj)).trans tk13
        refine ⟨.int lft, rfl, .ref Ro, rfl, .int o, rfl, Ro, _, _, .int d, rfl, rfl, SqL.of eRo13, atI_nat hrv, _, _, rfl, rfl, ?_⟩
        refine ⟨.ref Sp, rfl, .ref pA, rfl, .int o, rfl, pA, _, _, .int pn, rfl, rfl, tkH13.sq hP, atI_nat hov, Sp, _, _, .int ps2[pn], rfl, rfl, SqL.of eSp13, atI_nat hpv, .ref Ro, rfl, .int o, rfl, Ro, _, _, .int d, rfl, rfl, SqL.of eRo13, atI_nat hrv, _, _, rfl, rfl, ?_⟩
        refine ⟨.ref Sp, rfl, .ref pA, rfl, .int o, rfl, pA, _, _, .int pn, rfl, rfl, tkH13.sq hP, atI_nat hov, Sp, _, _, pn, rfl, rfl, eSp13, ixN_nat (by rw [List.length_map]; exact hpl), ?_⟩
        have sums := sumSet (x := d) hr0
        refine ⟨_, _, lft - d, tj + 2, ps2.set pn (ps2[pn] - d), row.set o d, rfl, (D12.put oRo.1 oRo.2.1 oRo.2.2).put oSp.1 oSp.2.1 oSp.2.2, by omega, ExtPut (ExtPut (xj.trans x12) fRo) fSp, ((tkj.trans (x12.tup Dj)).trans tk13).trans (TupK.put eSp13), ?_, ?_, ?_, ?_, ?_, ?_, ?_, ?_, ?_, by omega, by omega, by omega, ?_, ?_⟩
        · rw [upd_ne nSO.symm, upd_ne nORo]; exact eO12
        · rw [upd_ne nSOo.symm, upd_ne nRoOo.symm]; exact eOo12
        · rw [upd_same, List.map_set]
        · rw [List.length_set]; exact lPj
        · intro x hx
          rcases List.mem_or_eq_of_mem_set hx with h | h
          · exact bPj x h
          · rw [h]; omega
        · rw [upd_ne nSR.symm, upd_ne nRRo]; exact eR12
        · rw [upd_ne nSRo.symm]; exact eRo13
        · rw [List.length_set]; exact lrow
        · intro x hx
          rcases List.mem_or_eq_of_mem_set hx with h | h
          · exact brow x h
          · rw [h]; omega
        · intro o' ho' hno
          rw [mem_take_succ hoI] at hno
          rw [List.getElem?_set_ne (fun z => hno (.inr (by rw [z])))]
          exact hzero o' ho' (fun z => hno (.inl z))
        · intro p hp
          rw [rl_set p hpo hr0]
          have e1 := hldj p hp
          have e2 := hldj pn (by omega)
          by_cases hpe : pn = p
          · subst hpe
            rw [if_pos rfl]
            have a1 : (ps2.set pn (ps2[pn] - d)).getD pn 0 = ps2[pn] - d := by simp [List.getD_eq_getElem?_getD, hpl]
            have a2 : ps2.getD pn 0 = ps2[pn] := by simp [List.getD_eq_getElem?_getD, hpl]
            rw [a1]; rw [a2] at e2; omega
          · rw [if_neg hpe]
            have a1 : (ps2.set pn (ps2[pn] - d)).getD p 0 = ps2.getD p 0 := by simp only [List.getD_eq_getElem?_getD]; rw [List.getElem?_set_ne hpe]
            rw [a1]; omega
      · rintro σ Hj ⟨y8, y9, lft, tj, ps2, row, rfl, Dj, htj, xj, tkj, eOj, eOoj, eSpj, lPj, bPj, eRj, eRoj, lrow, brow, l0, l1, hsum, hzero, hldj⟩
        rw [List.length_map] at htj hzero
        have hz := hzero g.1.length (by omega) (fun z => by
          have := upTo_mem (hos _ (List.mem_of_mem_take z))
          omega)
        have hw : ixN (row.map V.int).length (-1) = some g.1.length := by
          unfold ixN
          rw [List.length_map, lrow]
          simp
          omega
        refine ⟨.int lft, rfl, .ref Ro, rfl, _, rfl, Ro, _, _, g.1.length, rfl, rfl, eRoj, hw, ?_⟩
        rw [← List.map_set]
        have tk13 : TupK Hj (upd Hj Ro (.lst ((row.set g.1.length lft).map V.int))) := TupK.put eRoj
        have D13 := Dj.put (o := .lst ((row.set g.1.length lft).map V.int)) oRo.1 oRo.2.1 oRo.2.2
        have x13 := ExtPut (o := .lst ((row.set g.1.length lft).map V.int)) xj fRo
        have eR13 : (upd Hj Ro (.lst ((row.set g.1.length lft).map V.int))) Rw = some (.lst vs) := by rw [upd_ne nRRo]; exact eRj
        have eSp13 : (upd Hj Ro (.lst ((row.set g.1.length lft).map V.int))) Sp = some (.lst (ps2.map V.int)) := by rw [upd_ne nSRo]; exact eSpj
        have eO13 : (upd Hj Ro (.lst ((row.set g.1.length lft).map V.int))) Om = some (.lst (ms.map V.int)) := by rw [upd_ne nORo]; exact eOj
        have eRo13 : (upd Hj Ro (.lst ((row.set g.1.length lft).map V.int))) Ro = some (.lst ((row.set g.1.length lft).map V.int)) := upd_same
        generalize upd Hj Ro (.lst ((row.set g.1.length lft).map V.int)) = H13 at tk13 D13 x13 eR13 eSp13 eO13 eRo13 ⊢
        refine ⟨.ref Ro, rfl, Ro, _, rfl, .inl ⟨SqL.of eRo13, fun T nT => ?_⟩⟩
        have hvl : vs.length = gs.length := by rw [DpAll.len hvs, List.length_map, lrw]
        have s14 := sameNew (o := .tup ((row.set g.1.length lft).map V.int)) nT
        have eR14 := s14 _ _ eR13
        have tk14 : TupK (upd H13 T (.tup ((row.set g.1.length lft).map V.int))) _ := TupK.put (o := .lst (vs.set k (.ref T))) eR14
        refine ⟨.ref Rw, rfl, .int k, rfl, Rw, _, _, k, rfl, rfl, eR14, ixN_nat (by omega), ?_⟩
        refine ⟨_, _, _, _, _, _, tj, ps2, vs.set k (.ref T), rows.set k (row.set g.1.length lft), rfl, (D13.new nT).put oRw.1 oRw.2.1 oRw.2.2, by omega, ExtPut (x13.trans (Ext.of s14)) fRw, by rw [upd_ne nRO.symm]; exact s14 _ _ eO13, by rw [upd_ne nSR]; exact s14 _ _ eSp13, lPj, bPj, upd_same, ?_, by rw [List.length_set]; exact lrw, ?_, ?_, ?_⟩
        · have h := DpAll.set k ((((tkj.trans tk13).trans (TupK.of s14)).trans tk14).dpAll _ _ (to_rows _) hvs) (dI_sq (tk14.sq (SqT.of upd_same)))
          rw [← List.map_set] at h
          exact h
        · intro k' g' row' hin hg' hrow'
          rw [mem_take_succ hkI] at hin
          by_cases hkk : k = k'
          · subst hkk
            rw [hgk] at hg'
            cases hg'
            rw [List.getElem?_set_self (by omega)] at hrow'
            cases hrow'
            refine ⟨by rw [List.length_set]; exact lrow, ?_⟩
            unfold shareOk
            rw [Bool.and_eq_true]
            refine ⟨?_, decide_eq_true (by rw [sumSet hz]; omega)⟩
            rw [List.all_eq_true]
            intro x hx
            rcases List.mem_or_eq_of_mem_set hx with h | h
            · exact decide_eq_true (brow x h)
            · rw [h]; exact decide_eq_true ⟨l0, l1⟩
          · rw [List.getElem?_set_ne hkk] at hrow'
            refine hgood k' g' row' ?_ hg' hrow'
            rcases hin with h | h
            · exact h
            · exact absurd (by omega) hkk
        · intro k' hk' hin
          rw [mem_take_succ hkI] at hin
          rw [List.getElem?_set_ne (fun z => hin (.inr (by rw [z])))]
          exact hun k' hk' (fun z => hin (.inl z))
        · intro p hp
          rw [gl_set p hgk hrk, rl_end p (Nat.le_refl _)]
          have h0 : rl p g.1 [] = 0 := by simp [rl]
          have := hldj p hp
          omega
    · rintro σ H5 ⟨y4, y5, y6, y7, y8, y9, t', pls, vs, rows, rfl, D5, ht5, x5, eO5, eSp5, lP, bP, eR5, hvs, lrw, hgood, hun, hld⟩
      rw [List.length_map] at ht5 hgood
      rw [List.take_length] at hgood
      refine ⟨.ref Rw, rfl, Rw, _, rfl, .inl ⟨SqL.of eR5, fun p np => ?_⟩⟩
      refine q _ p t' rows (D5.new np) (by omega) (x5.trans (Ext.of (sameNew np))) (.tup (SqT.of upd_same) ((TupK.new np).dpAll _ _ (to_rows _) hvs)) (isAD_rows lrw (fun k g row hg' hr' => hgood k g row (all_in hnd hms hml (List.getElem?_eq_some_iff.mp hg').1) hg' hr') fun p hp => ?_)
      have h1 := hld p hp
      have h2 : 0 ≤ pls.getD p 0 := by
        rw [List.getD_eq_getElem?_getD, List.getElem?_eq_getElem (by omega)]
        exact (bP _ (List.getElem_mem (by omega))).1
      omega
end
end Pv

namespace Pv
open PySem PySem.Spec PyProof.Rows L2 SX
abbrev sRo : Stmt := topS 36
theorem scRo : FnScope ["_law_wish", "_law_count", "_law_word", "_law_row_here", "_law_part", "_law_number_here"] ["_law_wish", "_law_count", "_law_word"] (defScope sRo) := ⟨rfl, rfl, rfl, by decide +kernel, rfl, by decide +kernel, by decide +kernel⟩
theorem mem_le_sum : ∀ {l : List Int} {x : Int}, (∀ y ∈ l, 0 ≤ y) → x ∈ l → x ≤ l.sum
  | [], _, _, h => by simp at h
  | a :: l, x, h, hx => by
    have h0 := h a (List.mem_cons_self ..)
    have hl : 0 ≤ l.sum := by
      clear hx
      induction l with
      | nil => simp
      | cons b l ih =>
        have hb := h b (by simp)
        have := ih (fun y hy => h y (by
          rcases List.mem_cons.mp hy with rfl | hy
          · simp
          · simp [hy]))
        rw [List.sum_cons]; omega
    rw [List.sum_cons]
    rcases List.mem_cons.mp hx with rfl | hx
    · omega
    · have := mem_le_sum (fun y hy => h y (List.mem_cons_of_mem _ hy)) hx
      omega
def lrP (g : Gp) (w : List Nat) : Prop := (wds 44 w).length = g.1.length + 1 ∧ (∀ p ∈ wds 44 w, 0 ≤ lnO p) ∧ ((wds 44 w).map lnO).sum = g.2
instance (g : Gp) (w : List Nat) : Decidable (lrP g w) := by unfold lrP; infer_instance
theorem lr_dI {g : Gp} {w : List Nat} (hg : g.2 ≤ 10 ^ 12) (h : lrP g w) : shW w = dI ((wds 44 w).map lnO) ∧ ∀ p ∈ wds 44 w, lnO p ≤ g.2 := by
  have hle : ∀ p ∈ wds 44 w, lnO p ≤ g.2 := fun p hp => by
    have := mem_le_sum (l := (wds 44 w).map lnO) (x := lnO p) (fun y hy => by obtain ⟨q, hq, rfl⟩ := List.mem_map.mp hy; exact h.2.1 q hq) (List.mem_map.mpr ⟨p, hp, rfl⟩)
    rw [h.2.2] at this
    exact this
  refine ⟨?_, hle⟩
  unfold shW
  rw [dWs_ln (lo := 0) (hi := 10 ^ 12) (by decide) (by decide) fun p hp => ⟨h.2.1 p hp, by have := hle p hp; omega⟩]; rfl
theorem share_ln {g : Gp} {w : List Nat} (hg : g.2 ≤ 10 ^ 12) : shareD g (shW w) = true ↔ lrP g w := by
  constructor
  · intro h
    unfold shW shareD at h
    simp only [intsOf] at h
    cases e : intsAll (dWs (wds 44 w)) with
    | none => rw [e] at h; cases h
    | some row =>
      rw [e] at h
      dsimp only at h
      rw [Bool.and_eq_true] at h
      obtain ⟨h1, h2⟩ := h
      have h1 := of_decide_eq_true h1
      unfold shareOk at h2
      rw [Bool.and_eq_true, List.all_eq_true] at h2
      have er := intsAll_eq e
      have hall : ∀ p ∈ wds 44 w, 0 ≤ lnO p ∧ lnO p ≤ 10 ^ 12 := fun p hp => by
        have hm : oD (pnO p) ∈ dWs (wds 44 w) := List.mem_map.mpr ⟨p, hp, rfl⟩
        rw [er] at hm
        obtain ⟨x, hx, e2⟩ := List.mem_map.mp hm
        have hb := of_decide_eq_true (h2.1 x hx)
        refine (within_pn (lo := 0) (hi := 10 ^ 12) (by decide) (by decide) p).mp ?_
        rw [← e2]
        exact decide_eq_true ⟨hb.1, by omega⟩
      have ed := dWs_ln (lo := 0) (hi := 10 ^ 12) (by decide) (by decide) hall
      have : row = (wds 44 w).map lnO := by
        rw [ed, intsAll_ints] at e
        cases e; rfl
      rw [this, List.length_map] at h1
      rw [this] at h2
      exact ⟨h1, fun p hp => (hall p hp).1, of_decide_eq_true h2.2⟩
  · intro h
    obtain ⟨e, hle⟩ := lr_dI hg h
    rw [e, shareD_dI, Bool.and_eq_true, List.length_map]
    refine ⟨decide_eq_true h.1, ?_⟩
    unfold shareOk
    rw [Bool.and_eq_true, List.all_eq_true]
    refine ⟨fun x hx => ?_, decide_eq_true h.2.2⟩
    obtain ⟨p, hp, rfl⟩ := List.mem_map.mp hx
    exact decide_eq_true ⟨h.2.1 p hp, hle p hp⟩
def lrD (g : Gp) (w : List Nat) : PyData := if lrP g w then dI ((wds 44 w).map lnO) else .none
theorem hem_neg (ws : List (List Nat)) : (ws.filterMap (fun w => if lnO w < 0 then some (V.int (lnO w)) else none)).isEmpty = decide (∀ w ∈ ws, 0 ≤ lnO w) := by
  induction ws with
  | nil => simp
  | cons w ws ih =>
    rw [List.filterMap_cons]
    by_cases y : lnO w < 0
    · rw [if_pos y]
      exact (decide_eq_false fun h => by have := h w (List.mem_cons_self ..); omega).symm
    · rw [if_neg y]; dsimp only; rw [ih]
      exact decide_eq_decide.mpr ⟨fun h v hv => (List.mem_cons.mp hv).elim (fun e => e ▸ by omega) (h v), fun h v hv => h v (List.mem_cons_of_mem _ hv)⟩
section
variable {P : Program} {w : World} {K : PySem.W.Frag} {mg : Str → Option Value} {base : Heap}
def spRo (K : PySem.W.Frag) : Sp := fun vs H Q _ => ∃ (t : Addr) (g : Gp) (w : List Nat), vs = [.ref t, .int g.2, .str (S w)] ∧ SqT K H t (g.1.map V.int) ∧ g.1.length ≤ 6 ∧ w.length ≤ 90000 ∧ RB dg 640 w ∧ ∀ H' x, Same H H' → Dp K H' x (lrD g w) → Q x H'
set_option maxHeartbeats 4000000 in
theorem ok_Ro {f fNu : Addr} {fd fdNu : FuncData} (F : Fun K "_law_row" "_law_row" sRo f fd)
    (FNu : Fun K "_law_number" "_law_number" sNu fNu fdNu) (bNu : Binds K fdNu ["_law_word"] []) (gNu : mg "_law_number" = some (.ref fNu)) (GNu : FnOk P w K mg base CX0 1 fNu fdNu ["_law_word"] spNu)
    (m_len : mg "len" = none) (m_sum : mg "sum" = none) (m_tuple : mg "tuple" = none) :
    FnOk P w K mg base CX0 2 f fd ["_law_wish", "_law_count", "_law_word"] (spRo K) := by
  refine F.ok scRo (fun vs H Q E h => ?_) (fun cdv A outer s H vs Q E hr h => ?_)
  · obtain ⟨t, g, wo, rfl, _⟩ := h; rfl
  · obtain ⟨t, g, wo, rfl, ht, hg, hw, hd, q⟩ := h
    have hu64 : (A.deeper (envOfC "_law_row" (defScope sRo) s.heap.objs.size f cdv)).units + 64 < cLine := by have := hr.un; omega
    have hu0 : (A.deeper (envOfC "_law_row" (defScope sRo) s.heap.objs.size f cdv)).units < cLine := by have := hr.un; omega
    refine ⟨_, pss_cons (ps_setLc (i := 3) (own := [("_law_part", 4)]) (g := gName 4) (tt := tYes) (te := tCall spNu [] E0 (tCons (tVar 4) tNil)) rfl scRo.nd rfl rfl (sw_true rfl rfl rfl (by decide +kernel)) (pi_list (pe_m1 PySem.F.slot_str_split PySem.F.type_str_split mt_splitQ (pv 2) (pe_str))) (blkOk_by (N := ["_law_wish", "_law_count", "_law_word", "_law_row_here", "_law_part", "_law_number_here"]) (sc := defScope sRo) (by decide +kernel)) (fun _ _ _ _ _ => pg_name (i := 4) scRo.nd rfl (.inl rfl)) (fun _ _ _ _ _ => pts_nil) (fun _ _ _ _ _ => pe_call GNu (hr.mono (by omega)) (by rfl) gNu FNu.kp bNu .nil pass0 (pa_cons (pv 4) pa_nil)))
      (pss_cons (ps_if (PW.pt (pw_or (pt_cmpR op_ne (pe_callB call_lenQ (by rfl) m_len PySem.boot_len (pa_cons (pv 3) pa_nil)) (pe_op op_add (pe_callB call_lenQ (by rfl) m_len PySem.boot_len (pa_cons (pv 0) pa_nil)) (pe_int)) (nomark _)) (pw_or (pt_cmpR (op_neNil hu0) (pe_lc (own := [("_law_number_here", 5)]) (g := gName 5) (tt := tTest (tOp (rI0 fun i j => .bl (decide (i < j))) (tVar 5) (tC (.int 0)))) (te := tVar 5) rfl scRo.nd (pi_list (pv 3)) (blkOk_by (N := ["_law_wish", "_law_count", "_law_word", "_law_row_here", "_law_part", "_law_number_here"]) (sc := defScope sRo) (by decide +kernel)) (fun _ _ _ _ _ => pg_name (i := 5) scRo.nd rfl (.inl rfl)) (fun _ _ _ _ _ => pts_one (pt_cmpR op_lt (pv 5) (pe_int) (nomark _))) (fun _ _ _ _ _ => pv 5)) (pe_lst (pa_nil)) (nomark _)) (pw_or1 (pt_cmpR op_ne (pe_callB (cr_sum rfl) (by rfl) m_sum (by decide +kernel) (pa_cons (pv 3) pa_nil)) (pv 1) (nomark _))))))
        (pss_one (ps_ret (pe_non))) pss_nil)
      (pss_one (ps_ret (pe_callTy call_tupQ (by rfl) m_tuple (by decide +kernel) (pa_cons (pv 3) pa_nil))))), ?_⟩
    have hl6 : (S wo).length + 2 ≤ sizeLine := by rw [S_len]; exact small6 (by omega)
    refine ⟨.str (S wo), rfl, ⟨_, rfl⟩, _, _, rfl, rfl, rfl, hl6, fun p np => ?_⟩
    rw [show Str.ofString "," = S [44] from rfl, split_wds (by decide)]
    obtain ⟨ws, ew⟩ : ∃ ws, wds 44 wo = ws := ⟨_, rfl⟩
    have wl := wds_len 44 wo
    have we : ∀ u ∈ ws, u.length ≤ wo.length := fun u hu => wds_each (by rw [ew]; exact hu)
    have wd : ∀ u ∈ ws, RB dg 640 u := fun u hu => hd.word (by rw [ew]; exact hu)
    have hP : lrP g wo ↔ (ws.length = g.1.length + 1 ∧ (∀ p ∈ ws, 0 ≤ lnO p) ∧ (ws.map lnO).sum = g.2) := by unfold lrP; rw [ew]
    have q1 : lrP g wo → ∀ H' x, Same H H' → Dp K H' x (dI (ws.map lnO)) → Q x H' := fun h H' x s' hx => q H' x s' (by unfold lrD; rw [if_pos h, ew]; exact hx)
    have q0 : ¬ lrP g wo → ∀ H', Same H H' → Q .non H' := fun h H' s' => q H' .non s' (by unfold lrD; rw [if_neg h]; exact .non)
    rw [ew] at wl ⊢
    have s1 := sameNew (o := .lst ((ws.map S).map V.str)) np
    have ep : (upd H p (.lst ((ws.map S).map V.str))) p = some (.lst ((ws.map S).map V.str)) := upd_same
    generalize upd H p (.lst ((ws.map S).map V.str)) = H1 at s1 ep ⊢
    refine ⟨p, rfl, ⟨_, SqL.of ep⟩, fun D nD => lc_it (walk_list (K := K) (a := p) (xs := (ws.map S).map V.str)) (LcP H1 D ws (fun w => some (.int (lnO w)))) (.start nD) (fun j H4 _ h => SqL.of (h.1 _ _ ep)) ?_ ?_⟩
    · rintro j x H4 H5 hj hL ⟨rfl, hx⟩
      have hx : ((ws.map S).map V.str)[j]? = some x := hx
      rw [List.getElem?_map, List.getElem?_map] at hx
      obtain ⟨z1, hz1, rfl⟩ := Option.map_eq_some_iff.mp hx
      obtain ⟨u, hu, rfl⟩ := Option.map_eq_some_iff.mp hz1
      have hul := we u (List.mem_of_getElem? hu)
      have hud := wd u (List.mem_of_getElem? hu)
      have hjl := (List.getElem?_eq_some_iff.mp hu).1
      exact ⟨rfl, .str (S u), rfl, u, rfl, by omega, fun h => hud.all h, fun H6 s6 => hL.yes nD s6 hu rfl (by omega)⟩
    rintro H4 hL
    have e4 := hL.done (by rw [List.length_map, List.length_map]; exact Nat.le_refl _)
    rw [fm_map] at e4
    have e4 : H4 D = some (.lst ((ws.map lnO).map V.int)) := by rw [e4, List.map_map]; rfl
    have s04 := s1.trans hL.1
    have lw : (ws.map lnO).length = ws.length := List.length_map ..
    have hno : ∀ H', Same H4 H' → ¬ (ws.length = g.1.length + 1 ∧ (∀ p ∈ ws, 0 ≤ lnO p) ∧ (ws.map lnO).sum = g.2) → Q .non H' := fun H' s' hn' => q0 (fun e => hn' (hP.mp e)) H' (s04.trans s')
    refine ⟨.ref D, rfl, D, _, rfl, .inl (SqL.of e4), .ref t, rfl, t, _, rfl, .inr (sqS s04 ht), _, _, rfl, rfl, rfl, _, rfl, ?_⟩
    rw [List.length_map, lw, List.length_map]
    by_cases h1 : ws.length = g.1.length + 1
    rotate_left
    · have hz : (!decide (V.int (ws.length : Nat) = V.int ((g.1.length : Nat) + 1))) = true := by
        rw [decide_eq_false (fun e => h1 (by have := V.int.inj e; omega))]; rfl
      rw [hz]
      exact iteT (iteT (hno _ (Same.refl _) fun e => h1 e.1))
    have hz : (!decide (V.int (ws.length : Nat) = V.int ((g.1.length : Nat) + 1))) = false := by
      rw [decide_eq_true (by congr 1; omega)]; rfl
    rw [hz]
    refine iteF ?_
    refine ⟨.ref D, rfl, D, rfl, ⟨_, SqL.of e4⟩, fun D2 nD2 => lc_it (walk_list (K := K) (a := D) (xs := (ws.map lnO).map V.int)) (LcP H4 D2 ws (fun w => if lnO w < 0 then some (.int (lnO w)) else none)) (.start nD2) (fun j H5 _ h => SqL.of (h.1 _ _ e4)) ?_ ?_⟩
    · rintro j x H5 H6 hj hL2 ⟨rfl, hx⟩
      have hx : ((ws.map lnO).map V.int)[j]? = some x := hx
      rw [List.getElem?_map, List.getElem?_map] at hx
      obtain ⟨z1, hz1, rfl⟩ := Option.map_eq_some_iff.mp hx
      obtain ⟨u, hu, rfl⟩ := Option.map_eq_some_iff.mp hz1
      have hjl := (List.getElem?_eq_some_iff.mp hu).1
      refine ⟨rfl, .int (lnO u), rfl, _, _, rfl, rfl, _, rfl, ?_⟩
      by_cases k1 : lnO u < 0
      · rw [decide_eq_true k1]
        exact iteT ⟨_, rfl, hL2.yes nD2 (Same.refl _) hu (by rw [if_pos k1]) (by omega)⟩
      · rw [decide_eq_false k1]
        exact iteF (hL2.no (Same.refl _) hu (by rw [if_neg k1]))
    rintro H5 hL2
    have e5 := hL2.done (by rw [List.length_map, List.length_map]; exact Nat.le_refl _)
    have eD5 := hL2.1 _ _ e4
    refine ⟨Nat.zero_le _, fun p3 np3 => ⟨D2, p3, _, rfl, rfl, SqL.of (upNew np3 e5), SqL.of upd_same, ?_⟩⟩
    have s45 := hL2.1.trans (sameNew (o := .lst []) np3)
    have eD6 := (sameNew (o := .lst []) np3) _ _ eD5
    generalize upd H5 p3 (.lst []) = H6 at s45 eD6 ⊢
    rw [hem_neg]
    refine ⟨_, rfl, ?_⟩
    by_cases h3 : ∀ w ∈ ws, 0 ≤ lnO w
    rotate_left
    · rw [decide_eq_false h3]
      exact iteT (iteT (hno _ s45 fun e => h3 e.2.1))
    rw [decide_eq_true h3]
    refine iteF ?_
    refine ⟨.ref D, rfl, D, ws.map lnO, rfl, SqL.of eD6, .int g.2, rfl, rfl, _, rfl, ?_⟩
    by_cases h4 : (ws.map lnO).sum = g.2
    · have hz : (!decide (V.int (ws.map lnO).sum = V.int g.2)) = false := by rw [decide_eq_true (by rw [h4])]; rfl
      rw [hz]
      refine iteF ⟨.ref D, rfl, D, _, rfl, .inl ⟨SqL.of eD6, fun T nT => ?_⟩⟩
      exact q1 (hP.mpr ⟨h1, h3, h4⟩) _ _ ((s04.trans s45).trans (sameNew nT)) (dI_sq (SqT.of upd_same))
    · have hz : (!decide (V.int (ws.map lnO).sum = V.int g.2)) = true := by rw [decide_eq_false (fun e => h4 (V.int.inj e))]; rfl
      rw [hz]
      exact iteT (hno _ s45 fun e => h4 e.2.2)
end
end Pv

namespace Pv
open PySem PySem.Spec PyProof.Rows L2
abbrev zn1 (h : Heap) (l1 : Addr) : Heap := h.push { cls := .type "tuple_iterator", data := .fields #[.ref l1, .int 0 0] }
abbrev zn2 (h : Heap) (l1 l2 : Addr) : Heap := (zn1 h l1).push { cls := .type "list_iterator", data := .fields #[.ref l2, .int 0 0] }
abbrev zn3 (h : Heap) (l1 l2 : Addr) : Heap := (zn2 h l1 l2).push { cls := .type "tuple", data := .seq #[.ref h.objs.size, .ref (zn1 h l1).objs.size] }
abbrev zn4 (h : Heap) (l1 l2 : Addr) : Heap := (zn3 h l1 l2).push { cls := .type "tuple", data := .seq #[.none, .none] }
abbrev zn5 (h : Heap) (l1 l2 : Addr) : Heap := (zn4 h l1 l2).push { cls := .type "zip", data := .fields #[.none, .bool false, .bool false, .ref (zn2 h l1 l2).objs.size, .ref (zn3 h l1 l2).objs.size] }
theorem zipN_new (l1 l2 : Addr) (xs ys : Array Value) :
    Meets (Builtin.«zip.__new__» ⟨[.type "zip", .ref l1, .ref l2], []⟩) (fun _ R s => s.heap.IsTuple l1 xs ∧ s.heap.IsList l2 ys ∧
      R (.ok (.ret (.ref (zn4 s.heap l1 l2).objs.size))) { s with heap := zn5 s.heap l1 l2 }) :=
  .of_wp fun prog w A R s h => by
    obtain ⟨hp, g, d, tk, os⟩ := s
    obtain ⟨hl1, hl2, h⟩ := h
    have hsub := sub_zip
    have hL1 : Heap.IsTuple (Shared.heap ⟨hp, g, d, tk, os⟩) l1 xs := hl1
    have hL2 : Heap.IsList (Shared.heap ⟨zn1 hp l1, g, d, tk, os⟩) l2 ys := Heap.IsList.push hl2 _
    wp_walk using wpAny_pyIter_tuple hL1, wpAny_pyIter_list hL2
    exact ⟨_, rfl, h⟩
theorem call_zipN {prog : Program} {w : World} {A : Around} {E : Value → Shared → Prop} {s : Shared} {l1 l2 : Addr} {xs ys : Array Value} {Q : Value → Shared → Prop} (hl1 : s.heap.IsTuple l1 xs) (hl2 : s.heap.IsList l2 ys)
    (h : ∀ h', IsZip h' (s.heap.objs.size + 4) (s.heap.objs.size + 2) (s.heap.objs.size + 3) .none → IsPair h' (s.heap.objs.size + 2) (.ref s.heap.objs.size) (.ref (s.heap.objs.size + 1)) →
      IsPair h' (s.heap.objs.size + 3) .none .none → h'.IsTupleIter s.heap.objs.size l1 0 → h'.IsListIter (s.heap.objs.size + 1) l2 0 →
      (∀ c o, s.heap.get? c = some o → h'.get? c = some o) → Q (.ref (s.heap.objs.size + 4)) { s with heap := h' }) :
    wpAny (model prog w) A (call (.type "zip") [.ref l1, .ref l2]) Q E s := by
  refine callType_new F.called_zip (by decide) (F.typeCall_zip_2 _ _) (F.newCall_zip_2 _ _) (fun obj => F.args_object_init_3 obj _ _) F.entry_zip_new (zipN_new l1 l2 xs ys) ⟨hl1, hl2, ?_⟩
  have z1 : (zn1 s.heap l1).objs.size = s.heap.objs.size + 1 := Heap.size_push ..
  have z2 : (zn2 s.heap l1 l2).objs.size = s.heap.objs.size + 2 := by rw [Heap.size_push, z1]
  have z3 : (zn3 s.heap l1 l2).objs.size = s.heap.objs.size + 3 := by rw [Heap.size_push, z2]
  have z4 : (zn4 s.heap l1 l2).objs.size = s.heap.objs.size + 4 := by rw [Heap.size_push, z3]
  have g5 : (zn5 s.heap l1 l2).get? (zn4 s.heap l1 l2).objs.size = some _ := Heap.get?_push_size _ rfl
  have g4 : (zn5 s.heap l1 l2).get? (zn3 s.heap l1 l2).objs.size = some _ := Heap.get?_push_of_some _ (Heap.get?_push_size _ rfl)
  have g3 : (zn5 s.heap l1 l2).get? (zn2 s.heap l1 l2).objs.size = some _ := Heap.get?_push_of_some _ (Heap.get?_push_of_some _ (Heap.get?_push_size _ rfl))
  have g2 : (zn5 s.heap l1 l2).get? (zn1 s.heap l1).objs.size = some _ := Heap.get?_push_of_some _ (Heap.get?_push_of_some _ (Heap.get?_push_of_some _ (Heap.get?_push_size _ rfl)))
  have g1 : (zn5 s.heap l1 l2).get? s.heap.objs.size = some _ := Heap.get?_push_of_some _ (Heap.get?_push_of_some _ (Heap.get?_push_of_some _ (Heap.get?_push_of_some _ (Heap.get?_push_size _ rfl))))
  show _ ∧ _
  rw [z2, z3, z4] at g5
  rw [z1, z2] at g3
  rw [z3] at g4
  rw [z1] at g2
  rw [z4]
  refine ⟨⟨_, g5, rfl⟩, h _ g5 g3 g4 ⟨_, g1, rfl, rfl⟩ ⟨_, g2, rfl, rfl⟩ ?_⟩
  intro c o x
  exact Heap.get?_push_of_some _ (Heap.get?_push_of_some _ (Heap.get?_push_of_some _ (Heap.get?_push_of_some _ (Heap.get?_push_of_some _ x))))
def ItzN (K : PySem.W.Frag) (a b : Addr) : It :=
  ⟨fun i H => ∃ (xs ys : List V) (x y : V), SqT K H a xs ∧ SqL K H b ys ∧ xs[i]? = some x ∧ ys[i]? = some y,
   fun i H v H' => ∃ T x y, v = .ref T ∧ H T = none ∧ H' = upd H T (.tup [x, y]) ∧ (∀ xs, SqT K H a xs → xs[i]? = some x) ∧ ∀ ys, SqL K H b ys → ys[i]? = some y,
   fun i H => ∃ xs ys : List V, SqT K H a xs ∧ SqL K H b ys ∧ min xs.length ys.length = i⟩
theorem turn_zipN {P : Program} {w : World} {K : PySem.W.Frag} {elts : List Expr} {kk : Nat} {tpos : Pos} {a b z TI TO i1 i2 : Addr} (D : ZipApart z TI TO i1 i2 a b) :
    Turn P w K (.Tuple elts kk tpos) (ItzN K a b) [z, TI, TO, i1, i2] z
      (fun i h => IsZip h z TI TO .none ∧ IsPair h TI (.ref i1) (.ref i2) ∧ (∃ x y, IsPair h TO x y) ∧ h.IsTupleIter i1 a i ∧ h.IsListIter i2 b i) where
  mem := by simp
  obj := by
    rintro i h ⟨hz, hTI, ⟨x, y, hTO⟩, ⟨o1, e1, _, d1⟩, ⟨o2, e2, _, d2⟩⟩ c hc
    simp only [List.mem_cons, List.not_mem_nil, or_false] at hc
    rcases hc with rfl | rfl | rfl | rfl | rfl
    · exact ⟨_, hz, fun v q => nomatch q⟩
    · exact ⟨_, hTI, fun v q => nomatch q⟩
    · exact ⟨_, hTO, fun v q => nomatch q⟩
    · exact ⟨o1, e1, fun v q => by rw [d1] at q; cases q⟩
    · exact ⟨o2, e2, fun v q => by rw [d2] at q; cases q⟩
  keep := by
    rintro i h h' ⟨hz, hTI, ⟨x, y, hTO⟩, h1, h2⟩ k
    exact ⟨k z (by simp) _ hz, k TI (by simp) _ hTI, ⟨x, y, k TO (by simp) _ hTO⟩, h1.at fun o q => k i1 (by simp) o q, h2.at fun o q => k i2 (by simp) o q⟩
  item := by
    intro X hP hw hK hc i pins s σ H E I hf st hg
    subst hP hw hK
    obtain ⟨hz, hTI, ⟨x0, y0, hTO⟩, h1, h2⟩ := st
    obtain ⟨xs, ys, x, y, hqx, hqy, hx, hy⟩ := hg
    obtain ⟨its, rv, p, _⟩ := I.tuple hqx
    obtain ⟨its2, rv2, p2, _⟩ := I.list hqy
    obtain ⟨u, hu, ru⟩ := rv.get hx
    obtain ⟨u2, hu2, ru2⟩ := rv2.get hy
    have hzl : z < s.heap.objs.size := Heap.lt_size hz
    have hl1 : i < its.toArray.size := by have := (List.getElem?_eq_some_iff.mp hu).1; simpa using this
    have hl2 : i < its2.toArray.size := by have := (List.getElem?_eq_some_iff.mp hu2).1; simpa using this
    refine wpAny_pyNext_zipD2_item (sepM D) (Draws.tuple (A := X.A.in1) (I.ok.hd hc) i1 a D.l1i1 its.toArray) (Draws.list (A := X.A.in1) (I.ok.hd hc) i2 b D.l2i2 its2.toArray) hz hTI hTO ⟨h1, p⟩ ⟨h2, p2.isList⟩ hl1 hl2 ?_
    intro v1 v2 h' tk hv1 hv2 z' TO' st1 st2 hT hsz hk
    have e1 : v1 = u := by
      have h3 : its.toArray[i]? = some u := by simpa using hu
      rw [show its.toArray[i]? = some v1 from hv1] at h3
      exact Option.some.inj h3
    have e2 : v2 = u2 := by
      have h3 : its2.toArray[i]? = some u2 := by simpa using hu2
      rw [show its2.toArray[i]? = some v2 from hv2] at h3
      exact Option.some.inj h3
    subst e1 e2
    refine ⟨_, rfl, wpAny_letOwnedTupleGo_zip (s := { s with heap := h', toks := tk }) z' fun h'' z'' sb => ?_⟩
    have hT2 : h''.get? s.heap.objs.size = some { cls := .type "tuple", data := .seq #[v1, v2] } := (sb.2 _ (Nat.ne_of_gt hzl)).trans hT
    have new : ObjOk X.prog X.w (upd H s.heap.objs.size (.tup [x, y])) h'' s.heap.objs.size (.tup [x, y]) :=
      ⟨by show 2 ≤ sizeLine; decide, [v1, v2], .cons ru (.cons ru2 .nil), ⟨_, hT2, rfl, _, rfl⟩⟩
    have kk : ∀ c o, c ∉ [z, TI, TO, i1, i2] → s.heap.get? c = some o → h''.get? c = some o := by
      intro c o hb q
      simp only [List.mem_cons, List.not_mem_nil, or_false, not_or] at hb
      exact (sb.2 c hb.1).trans (hk c o hb.1 hb.2.2.1 hb.2.2.2.1 hb.2.2.2.2 q)
    have I1 : Inv X pins σ (upd H s.heap.objs.size (.tup [x, y])) { s with heap := h'', toks := tk } :=
      I.turnedNew (t' := tk) (ch := [z, TI, TO, i1, i2]) kk hf (Nat.le_refl _) new
    refine ⟨.ref s.heap.objs.size, _, I1, rfl, ⟨_, x, y, rfl, I.hok.fresh (Nat.le_refl _), rfl, fun l hl => by rw [I.tuple_inj hl hqx]; exact hx, fun l hl => by rw [I.list_inj hl hqy]; exact hy⟩, ⟨z'', ?_, ⟨v1, v2, ?_⟩, ?_, ?_⟩, ?_⟩
    · exact (sb.2 _ D.TIz).trans (hk _ _ D.TIz D.TITO D.TIi1 D.TIi2 hTI)
    · exact (sb.2 _ D.TOz).trans TO'
    · exact st1.1.at fun o q => (sb.2 _ D.i1z).trans q
    · exact st2.1.at fun o q => (sb.2 _ D.i2z).trans q
    · intro c hcm
      have hlt : c < s.heap.objs.size := by
        simp only [List.mem_cons, List.not_mem_nil, or_false] at hcm
        rcases hcm with rfl | rfl | rfl | rfl | rfl
        · exact hzl
        · exact Heap.lt_size hTI
        · exact Heap.lt_size hTO
        · obtain ⟨_, e1, _⟩ := h1; exact Heap.lt_size e1
        · obtain ⟨_, e2, _⟩ := h2; exact Heap.lt_size e2
      rw [upd_ne (Nat.ne_of_lt hlt)]
      exact (hf c hcm).1
  done := by
    intro X hP hw hK hc i pins s σ H E I hf st hg
    subst hP hw hK
    obtain ⟨hz, hTI, ⟨x0, y0, hTO⟩, h1, h2⟩ := st
    obtain ⟨xs, ys, hqx, hqy, hend⟩ := hg
    obtain ⟨its, rv, p, _⟩ := I.tuple hqx
    obtain ⟨its2, rv2, p2, _⟩ := I.list hqy
    have l1 := rv.length
    have l2 := rv2.length
    refine wpAny_pyNext_zipD2_end (i := i) (sepM D) (Draws.tuple (A := X.A.in1) (I.ok.hd hc) i1 a D.l1i1 its.toArray) (Draws.list (A := X.A.in1) (I.ok.hd hc) i2 b D.l2i2 its2.toArray) hz hTI hTO ⟨h1, p⟩ ⟨h2, p2.isList⟩ (by simp; omega) (by simp; omega) (by simp; omega) ?_
    intro h' tk hk
    refine ⟨rfl, I.turnedL (t' := tk) (ch := [z, TI, TO, i1, i2]) ?_ hf⟩
    intro c o hb q
    simp only [List.mem_cons, List.not_mem_nil, or_false, not_or] at hb
    exact hk c o hb.1 hb.2.2.1 hb.2.2.2.1 hb.2.2.2.2 q
  self := fun A i s Q E st h => wpAny_pyIter_zip st.1 h
def iZipN (K : PySem.W.Frag) (ta : TA) : TI := fun σ H R => ta σ H fun vs H1 => ∃ a b xs ys, vs = [.ref a, .ref b] ∧ SqT K H1 a xs ∧ SqL K H1 b ys ∧ R (ItzN K a b) H1
theorem pi_zipN {X : Cx} {e e2 : Expr} {ta : TA} {p pos tpos : Pos} {elts : List Expr} {kk : Nat} (hg : Gl X "zip") (hm : X.mg "zip" = none) (ha : PA X [e, e2] ta)
    (hs : starEach [e, e2] X.env = (false, eval e X.env) :: starEach [e2] X.env := by rfl) (hpl : (backTo pos (starEach [e2] X.env)).any (·.1) = false := by rfl) :
    PI X (.Tuple elts kk tpos) (.Call (.Name "zip" p) [e, e2] [] pos) (iZipN X.K ta) := by
  constructor
  intro pins s σ H R I h
  refine Call_ (ld_blt I hg hm PyProof.Rows.boot_zip (PyProof.Rows.callWith_type1 (thn (ha.run pos pins s σ H _ I h) ?_) hs hpl))
  rintro us s1 ⟨vs, H1, I1, r1, a, b, xs, ys, rfl, hqx, hqy, q⟩
  obtain ⟨u, v, rfl, rfl, rfl⟩ := vals2 r1
  obtain ⟨its, rv, p1, _⟩ := I1.tuple hqx
  obtain ⟨its2, rv2, p2, _⟩ := I1.list hqy
  refine call_zipN (show s1.heap.IsTuple a its.toArray from p1) p2.isList fun h' hz hTI hTO h1 h2 hk => wpAny_pyIter_zip hz ?_
  have I2 : Inv X pins σ H1 { s1 with heap := h' } := I1.kept (t' := s1.toks) hk
  refine ⟨s1.heap.objs.size + 4, [s1.heap.objs.size + 4, s1.heap.objs.size + 2, s1.heap.objs.size + 3, s1.heap.objs.size, s1.heap.objs.size + 1], _, _, H1, rfl, I2,
    turn_zipN (PySem.W.ktu_apart s1.heap.objs.size a b (tupLt p1) p2.lt), ⟨hz, hTI, ⟨_, _, hTO⟩, h1, h2⟩, ?_, q⟩
  intro c hcm
  have hle : s1.heap.objs.size ≤ c := by
    simp only [List.mem_cons, List.not_mem_nil, or_false] at hcm
    rcases hcm with rfl | rfl | rfl | rfl | rfl <;> omega
  exact I1.fpOk hle (I1.hok.fresh hle)
theorem walk_zipN {K : PySem.W.Frag} {a b : Addr} {xs ys : List V} {n : Nat} (hn : n = min xs.length ys.length) :
    Walk (ItzN K a b) n (fun H => SqT K H a xs ∧ SqL K H b ys) (YPair (fun i => xs[i]?) (fun i => ys[i]?)) := by
  subst hn
  constructor
  · rintro i H hi ⟨q1, q2⟩
    have h1 : i < xs.length := by omega
    have h2 : i < ys.length := by omega
    exact ⟨xs, ys, xs[i], ys[i], q1, q2, by simp [h1], by simp [h2]⟩
  · rintro H ⟨q1, q2⟩
    exact ⟨xs, ys, q1, q2, rfl⟩
  · rintro i H v H' _ ⟨q1, q2⟩ ⟨T, x, z, h1, h2, h3, h4, h5⟩
    exact ⟨T, x, z, h1, h2, h3, h4 xs q1, h5 ys q2⟩
end Pv

namespace Pv
open PySem PySem.Spec PyProof.Rows L2 SX
abbrev sDu : Stmt := topS 37
theorem scDu : FnScope ["_law_instance_here", "_law_value", "_law_sizes", "_law_rows", "_law_words", "_law_found", "_law_index", "_law_word", "_law_row_here", "_law_loads", "_law_wish", "_law_count", "_law_post", "_law_number_here", "_law_load", "_law_size"] ["_law_instance_here", "_law_value"] (defScope sDu) := ⟨rfl, rfl, rfl, by decide +kernel, rfl, by decide +kernel, by decide +kernel⟩
def dueD (cs : List Int) (gs : List Gp) (d : PyData) : PyData := match paR cs gs d with
  | .inr e => .list [.str "told", e]
  | .inl o => .list [.str "bad", oD o]
def lnR (ws : List (List Nat)) : List (List Int) := ws.map fun u => (wds 44 u).map lnO
def Good (d : PyData) : Prop := ∀ a, d = .str (S a) → a.length ≤ 80000 ∧ RB dg 640 a
theorem rows_ln {cs : List Int} {gs : List Gp} {ws : List (List Nat)} (ok : InsOk cs gs) (h : ∀ k u, ws[k]? = some u → badW gs (0 + k) u = false) : ws.map shW = (lnR ws).map dI ∧ ws.length ≤ gs.length ∧ (gs.zip (ws.map shW)).all (fun q => shareD q.1 q.2) = true := by
  have hk : ∀ k u, ws[k]? = some u → ∃ g, gs[k]? = some g ∧ g ∈ gs ∧ shareD g (shW u) = true := fun k u hu => by
    have := h k u hu
    unfold badW at this
    rw [Nat.zero_add] at this
    cases e : gs[k]? with
    | none => rw [e] at this; cases this
    | some g =>
      rw [e] at this
      exact ⟨g, e, List.mem_of_getElem? e, by simpa using this⟩
  refine ⟨?_, ?_, ?_⟩
  · unfold lnR
    rw [List.map_map]
    refine List.map_congr_left fun u hu => ?_
    obtain ⟨k, hkl, e⟩ := List.getElem_of_mem hu
    obtain ⟨g, _, hg, hs⟩ := hk k u (by rw [List.getElem?_eq_getElem hkl, e])
    exact (lr_dI (ok.gp g hg).2.2.2 ((share_ln (ok.gp g hg).2.2.2).mp hs)).1
  · cases hl : ws.length with
    | zero => omega
    | succ n =>
      obtain ⟨g, hg, _⟩ := hk n ws[n] (List.getElem?_eq_getElem (by omega))
      have := (List.getElem?_eq_some_iff.mp hg).1
      omega
  · rw [List.all_eq_true]
    intro q hq
    obtain ⟨k, hkl, e⟩ := List.getElem_of_mem hq
    have h1 := List.getElem?_eq_getElem hkl
    rw [e, List.getElem?_zip_eq_some] at h1
    obtain ⟨h2, h3⟩ := h1
    rw [List.getElem?_map] at h3
    obtain ⟨u, h4, h5⟩ := Option.map_eq_some_iff.mp h3
    obtain ⟨g, hg, _, hs⟩ := hk k u h4
    rw [hg] at h2
    cases h2
    rw [← h5]; exact hs
theorem isAD_ln {cs : List Int} {gs : List Gp} {ws : List (List Nat)} (ok : InsOk cs gs) (h : ∀ k u, ws[k]? = some u → badW gs (0 + k) u = false) : isAD cs gs (.tuple (ws.map shW)) = (decide (ws.length = gs.length) && ((loadsOf cs.length gs (lnR ws)).zip cs).all (fun q => decide (q.1 ≤ q.2))) := by
  obtain ⟨h1, _, h3⟩ := rows_ln ok h
  rw [isAD_tup, h3, Bool.true_and, List.length_map]
  congr 3
  rw [h1, List.map_map]
  have : (rowD ∘ dI) = id := by funext r; simp [rowD, dI, intsOf, intsAll_ints]
  rw [this, List.map_id]
theorem hem_load (ls cs : List Int) : ((ls.zip cs).filterMap (fun q => if q.2 < q.1 then some (V.int 1) else none)).isEmpty = (ls.zip cs).all (fun q => decide (q.1 ≤ q.2)) := by
  induction ls.zip cs with
  | nil => rfl
  | cons q z ih =>
    rw [List.filterMap_cons, List.all_cons]
    by_cases y : q.2 < q.1
    · rw [if_pos y, decide_eq_false (by omega)]; rfl
    · rw [if_neg y, decide_eq_true (by omega)]; dsimp only; rw [ih]; rfl
theorem lnR_len (ws : List (List Nat)) : (lnR ws).length = ws.length := by simp [lnR]
theorem to_shs' (ls : List (List Nat)) : tupOnlyAll (ls.map shW) = true := to_shs ls
section
variable {P : Program} {w : World} {K : PySem.W.Frag} {mg : Str → Option Value} {base : Heap}
def spDu (K : PySem.W.Frag) : Sp := fun vs H Q _ => ∃ (st r i : Addr) (v : V) (cs : List Int) (gs : List Gp) (d : PyData), vs = [.ref i, v] ∧ Dp K H (.ref i) (dInst cs gs) ∧ InsOk cs gs ∧ Dq K st r H v d ∧ Good d ∧ ∀ H' p, Same H H' → Dp K H' (.ref p) (dueD cs gs d) → Q (.ref p) H'
set_option maxHeartbeats 8000000 in
theorem ok_Du {f fRo : Addr} {fd fdRo : FuncData} (F : Fun K "_law_due" "_law_due" sDu f fd)
    (FRo : Fun K "_law_row" "_law_row" sRo fRo fdRo) (bRo : Binds K fdRo ["_law_wish", "_law_count", "_law_word"] []) (gRo : mg "_law_row" = some (.ref fRo)) (GRo : FnOk P w K mg base CX0 2 fRo fdRo ["_law_wish", "_law_count", "_law_word"] (spRo K))
    (m_str : mg "str" = none) (m_isinstance : mg "isinstance" = none) (m_enumerate : mg "enumerate" = none) (m_len : mg "len" = none) (m_zip : mg "zip" = none) (m_tuple : mg "tuple" = none) :
    FnOk P w K mg base CX0 3 f fd ["_law_instance_here", "_law_value"] (spDu K) := by
  refine F.ok scDu (fun vs H Q E h => ?_) (fun cdv A outer s H vs Q E hr h => ?_)
  · obtain ⟨st, r, i, v, cs, gs, d, rfl, _⟩ := h; rfl
  · obtain ⟨st, r, i, v, cs, gs, d, rfl, hI, ok, hv, hsz, q⟩ := h
    have hu64 : (A.deeper (envOfC "_law_due" (defScope sDu) s.heap.objs.size f cdv)).units + 64 < cLine := by have := hr.un; omega
    have hu0 : (A.deeper (envOfC "_law_due" (defScope sDu) s.heap.objs.size f cdv)).units < cLine := by have := hr.un; omega
    refine ⟨_, pss_cons (ps_if (pt_not (pt_val (pe_callB call_isi (by rfl) m_isinstance (by decide +kernel) (pa_cons (pv 1) (pa_cons (pe_bltn (v := .ty "str") (by rfl) m_str (by decide +kernel) rfl) pa_nil)))))
        (pss_one (ps_ret (pe_lst (pa_cons (pe_str) (pa_cons (pe_non) pa_nil))))) pss_nil)
      (pss_cons (ps_asg (pv 0) (pg_tup rfl (pgs_cons (pg_name (i := 2) scDu.nd rfl (.inl rfl)) (pgs_cons (pg_name (i := 3) scDu.nd rfl (.inl rfl)) pgs_nil))))
      (pss_cons (ps_par (i := 4) (j := 5) rfl scDu.nd rfl rfl (by decide) rfl rfl (pa_cons (pe_m1 PySem.F.slot_str_split PySem.F.type_str_split mt_splitQ (pv 1) (pe_str)) (pa_cons (pe_lst (pa_nil)) pa_nil)) rfl)
      (pss_cons (ps_for PassesOwn.never rfl (pi_enum (by rfl) m_enumerate (pa_cons (pv 4) pa_nil)) (pg_tup rfl (pgs_cons (pg_name (i := 6) scDu.nd rfl (.inl rfl)) (pgs_cons (pg_name (i := 7) scDu.nd rfl (.inl rfl)) pgs_nil)))
        (pss_cons (ps_if (pt_cmpR op_eq (pv 6) (pe_callB call_lenQ (by rfl) m_len PySem.boot_len (pa_cons (pv 3) pa_nil)) (nomark _))
          (pss_one (ps_ret (pe_lst (pa_cons (pe_str) (pa_cons (pv 6) pa_nil))))) pss_nil)
        (pss_cons (ps_set (i := 8) scDu.nd rfl (.inl rfl) (pe_call GRo (hr.mono (by omega)) (by rfl) gRo FRo.kp bRo .nil pass0 (pa_cons (pe_ix ix_tup (pe_ix ix_tup (pv 3) (pv 6) (fun _ _ => rfl)) (pe_int) (fun _ _ => rfl)) (pa_cons (pe_ix ix_tup (pe_ix ix_tup (pv 3) (pv 6) (fun _ _ => rfl)) (pe_int) (fun _ _ => rfl)) (pa_cons (pv 7) pa_nil)))))
        (pss_cons (ps_if (pt_cmp (pc_isN (pv 8)))
          (pss_one (ps_ret (pe_lst (pa_cons (pe_str) (pa_cons (pv 6) pa_nil))))) pss_nil)
        (pss_one (ps_expr (pe_bm PySem.F.plainAttrs_list PySem.F.slot_list_append PySem.F.type_list_append mt_append (pv 5) (pa_cons (pv 8) pa_nil))))))))
      (pss_cons (ps_if (pt_cmpR op_lt (pe_callB call_lenQ (by rfl) m_len PySem.boot_len (pa_cons (pv 4) pa_nil)) (pe_callB call_lenQ (by rfl) m_len PySem.boot_len (pa_cons (pv 3) pa_nil)) (nomark _))
        (pss_one (ps_ret (pe_lst (pa_cons (pe_str) (pa_cons (pe_callB call_lenQ (by rfl) m_len PySem.boot_len (pa_cons (pv 4) pa_nil)) pa_nil))))) pss_nil)
      (pss_cons (ps_set (i := 9) scDu.nd rfl (.inl rfl) (pe_op op_rep (pe_lst (pa_cons (pe_int) pa_nil)) (pe_callB call_lenQ (by rfl) m_len PySem.boot_len (pa_cons (pv 2) pa_nil))))
      (pss_cons (ps_for PassesOwn.never rfl (pi_zipN (by rfl) m_zip (pa_cons (pv 3) (pa_cons (pv 5) pa_nil))) (pg_tup rfl (pgs_cons (pg_tup rfl (pgs_cons (pg_name (i := 10) scDu.nd rfl (.inl rfl)) (pgs_cons (pg_name (i := 11) scDu.nd rfl (.inl rfl)) pgs_nil))) (pgs_cons (pg_name (i := 8) scDu.nd rfl (.inl rfl)) pgs_nil)))
        (pss_one (ps_for PassesOwn.never rfl (RZ.pi_zipA (by rfl) m_zip (pa_cons (pv 10) (pa_cons (pv 8) pa_nil))) (pg_tup rfl (pgs_cons (pg_name (i := 12) scDu.nd rfl (.inl rfl)) (pgs_cons (pg_name (i := 13) scDu.nd rfl (.inl rfl)) pgs_nil)))
          (pss_one (ps_asg (pe_op op_add (pe_ix ix_list (pv 9) (pv 12) (fun _ _ => rfl)) (pv 13)) (pg_sub (pv 9) (pv 12) set_list))))))
      (pss_cons (ps_if (pt_cmpR (op_neNil hu0) (pe_lc (own := [("_law_load", 14), ("_law_size", 15)]) (g := gTup K 2 (gCons (gName 14) (gCons (gName 15) gNil))) (tt := tTest (tOp (rI0 fun i j => .bl (decide (j < i))) (tVar 14) (tVar 15))) (te := tC (.int 1)) rfl scDu.nd (pi_zipM (by rfl) m_zip (pa_cons (pv 9) (pa_cons (pv 2) pa_nil))) (blkOk_by (N := ["_law_instance_here", "_law_value", "_law_sizes", "_law_rows", "_law_words", "_law_found", "_law_index", "_law_word", "_law_row_here", "_law_loads", "_law_wish", "_law_count", "_law_post", "_law_number_here", "_law_load", "_law_size"]) (sc := defScope sDu) (by decide +kernel)) (fun _ _ _ _ _ => pg_tup rfl (pgs_cons (pg_name (i := 14) scDu.nd rfl (.inl rfl)) (pgs_cons (pg_name (i := 15) scDu.nd rfl (.inl rfl)) pgs_nil))) (fun _ _ _ _ _ => pts_one (pt_cmpR op_gt (pv 14) (pv 15) (nomark _))) (fun _ _ _ _ _ => pe_int)) (pe_lst (pa_nil)) (nomark _))
        (pss_one (ps_ret (pe_lst (pa_cons (pe_str) (pa_cons (pe_callB call_lenQ (by rfl) m_len PySem.boot_len (pa_cons (pv 3) pa_nil)) pa_nil))))) pss_nil)
      (pss_one (ps_ret (pe_lst (pa_cons (pe_str) (pa_cons (pe_callTy call_tupQ (by rfl) m_tuple (by decide +kernel) (pa_cons (pv 5) pa_nil)) pa_nil)))))))))))), ?_⟩
    obtain ⟨_, ca, ga, xs, ei, hi, hc, hgt, hgs⟩ := inst_open hI
    cases ei
    have lxs : xs.length = gs.length := by have := DpAll.len hgs; rwa [List.length_map] at this
    have g10 := ok.g10
    have c6 := ok.c6
    have two : (2 : Nat) ≤ sizeLine := by decide
    have bad0 : ∀ (o : Option Int), paR cs gs d = .inl o → ∀ (H' : Hp) (p : Addr), Same H H' → H' p = none → Q (.ref p) (upd H' p (.lst [.str "bad", oV o])) := fun o ho H' p s' np => by
      refine q _ p (s'.trans (sameNew np)) ?_
      unfold dueD
      rw [ho]
      exact .lst (SqL.of upd_same) (.cons (.str _) (.cons (oV_oD _) .nil))
    refine ⟨v, rfl, v, .ty "str", _, _, _, rfl, .ty _, hv.ty, kit_strD d, _, rfl, ?_⟩
    cases hd : isStrD d with
    | false =>
      refine iteT ⟨two, fun p np => ?_⟩
      exact bad0 none (by cases d <;> first | rfl | cases hd) _ p (Same.refl _) np
    | true =>
      refine iteF ?_
      cases d with
      | str z => ?_
      | _ => cases hd
      cases hv
      obtain ⟨a, rfl⟩ : ∃ a, z = S a := ⟨_, (S_of z).symm⟩
      obtain ⟨hsz, hrb⟩ := hsz a rfl
      have hl6 : (S a).length + 2 ≤ sizeLine := by rw [S_len]; exact small6 (by omega)
      refine ⟨.ref i, rfl, i, _, rfl, hi, rfl, _, _, rfl, _, _, rfl, rfl, ?_⟩
      refine ⟨.str (S a), rfl, ⟨_, rfl⟩, _, _, rfl, rfl, rfl, hl6, fun p np => ?_⟩
      rw [show Str.ofString " " = S [32] from rfl, split_wds (by decide)]
      have eR : paR cs gs (.str (S a)) = paT cs gs a := rfl
      unfold paT at eR
      have wl := wds_len 32 a
      have we : ∀ u ∈ wds 32 a, u.length ≤ a.length := fun u hu => wds_each hu
      have wd : ∀ u ∈ wds 32 a, RB dg 640 u := fun u hu => hrb.word hu
      obtain ⟨ws, ew⟩ : ∃ ws, wds 32 a = ws := ⟨_, rfl⟩
      rw [ew] at eR wl we wd ⊢
      have s1 := sameNew (o := .lst ((ws.map S).map V.str)) np
      have ep : (upd H p (.lst ((ws.map S).map V.str))) p = some (.lst ((ws.map S).map V.str)) := upd_same
      generalize upd H p (.lst ((ws.map S).map V.str)) = H1 at s1 ep ⊢
      refine ⟨Nat.zero_le _, fun Fo nFo => ⟨_, _, rfl, ?_⟩⟩
      have eL : ∀ H', Same H1 H' → SqL K H' p ((ws.map S).map V.str) := fun H' s' => SqL.of (s' _ _ ep)
      have lw : ((ws.map S).map V.str).length = ws.length := by rw [List.length_map, List.length_map]
      refine ⟨.ref p, rfl, p, _, rfl, eL _ (sameNew nFo), for_it (walk_enum (K := K) (a := p) (xs := (ws.map S).map V.str))
        (fun j σ H3 => ∃ (y6 y7 y8 : Option V) (vs : List V), σ = [some (.ref i), some (.str (S a)), some (.ref ca), some (.ref ga), some (.ref p), some (.ref Fo), y6, y7, y8, none, none, none, none, none, none, none] ∧ Same H1 H3 ∧ H3 Fo = some (.lst vs) ∧ DpAll K H3 vs ((ws.take j).map shW) ∧ ∀ k u, k < j → ws[k]? = some u → badW gs (0 + k) u = false)
        ⟨none, none, none, [], rfl, sameNew nFo, upd_same, .nil, fun k u h => by omega⟩ (fun j σ H3 _ h => by obtain ⟨_, _, _, _, _, s9, _⟩ := h; exact eL _ s9) ?_ ?_⟩
      · rintro j u σ H3 H4 hlt ⟨y6, y7, y8, vs, rfl, s5, e5, hvs, hno⟩ ⟨T, x, y, rfl, nT, rfl, hx, hy⟩
        have hx : some (V.int (j : Nat)) = some x := hx
        cases hx
        have hy : ((ws.map S).map V.str)[j]? = some y := hy
        rw [List.getElem?_map, List.getElem?_map] at hy
        obtain ⟨z1, hz1, rfl⟩ := Option.map_eq_some_iff.mp hy
        obtain ⟨wo, hw, rfl⟩ := Option.map_eq_some_iff.mp hz1
        have hj := (List.getElem?_eq_some_iff.mp hw).1
        have hwl := we wo (List.mem_of_getElem? hw)
        have hwd := wd wo (List.mem_of_getElem? hw)
        have sT := sameNew (o := .tup [.int ((j : Nat) : Int), .str (S wo)]) nT
        have e6 := sT _ _ e5
        have hvs6 := (TupK.of sT).dpAll _ _ (to_shs _) hvs
        have eT : SqT K (upd H3 T (.tup [.int ((j : Nat) : Int), .str (S wo)])) T [.int ((j : Nat) : Int), .str (S wo)] := SqT.of upd_same
        generalize upd H3 T (.tup [.int ((j : Nat) : Int), .str (S wo)]) = H6 at sT e6 hvs6 eT ⊢
        have s16 := s5.trans sT
        have s06 := s1.trans s16
        refine ⟨T, _, rfl, eT, rfl, _, _, rfl, _, _, rfl, rfl, ?_⟩
        have badj : badW gs (0 + j) wo = true → ∀ H' p, Same H6 H' → H' p = none → Q (.ref p) (upd H' p (.lst [.str "bad", .int ((j : Nat) : Int)])) := fun hb H' p s' np => by
          have eB := fbi_at hno hw hb
          rw [eB, Nat.zero_add] at eR
          exact bad0 (some ((j : Nat) : Int)) eR _ p (s06.trans s') np
        refine ⟨.int (j : Nat), rfl, .ref ga, rfl, ga, _, rfl, .inr (sqS s06 hgt), rfl, _, rfl, ?_⟩
        rw [lxs]
        by_cases hjl : j = gs.length
        · rw [decide_eq_true (by rw [hjl])]
          exact iteT ⟨.int (j : Nat), rfl, two, fun p np => badj (by unfold badW; rw [Nat.zero_add, List.getElem?_eq_none (by omega)]) _ p (Same.refl _) np⟩
        have hjg : j < gs.length := by
          by_cases z : j = 0
          · have := ok.g1; omega
          · obtain ⟨k, rfl⟩ : ∃ k, j = k + 1 := ⟨j - 1, by omega⟩
            have hb := hno k ws[k] (by omega) (List.getElem?_eq_getElem (by omega))
            unfold badW at hb
            rw [Nat.zero_add] at hb
            cases e : gs[k]? with
            | none => rw [e] at hb; cases hb
            | some g => have := (List.getElem?_eq_some_iff.mp e).1; omega
        rw [decide_eq_false (fun e => hjl (by have := V.int.inj e; omega))]
        have hgj : gs[j]? = some gs[j] := List.getElem?_eq_getElem hjg
        obtain ⟨g, eg⟩ : ∃ g, gs[j] = g := ⟨_, rfl⟩
        rw [eg] at hgj
        obtain ⟨gp6, gpr, gp1, gp2⟩ := ok.gp g (List.mem_of_getElem? hgj)
        obtain ⟨xv, hxv, hxd⟩ := dp_at hgs (show (gs.map dGrp)[j]? = some (dGrp g) by rw [List.getElem?_map, hgj]; rfl)
        obtain ⟨gA, pA, rfl, hG, hP⟩ := grp_ref hxd
        have tk6 := TupK.of s06
        refine iteF ⟨.ref ga, rfl, .int (j : Nat), rfl, ga, _, _, .ref gA, rfl, rfl, tk6.sq hgt, atI_nat hxv, gA, _, 0, .ref pA, rfl, rfl, tk6.sq hG, atI_nat (j := 0) rfl, .ref ga, rfl, .int (j : Nat), rfl, ga, _, _, .ref gA, rfl, rfl, tk6.sq hgt, atI_nat hxv, gA, _, 1, .int g.2, rfl, rfl, tk6.sq hG, atI_nat (j := 1) rfl, .str (S wo), rfl, pA, g, wo, rfl, tk6.sq hP, gp6, by omega, hwd, fun H7 x s7 hx7 => ?_⟩
        by_cases hlr : lrP g wo
        · have hsh := (share_ln gp2).mpr hlr
          have hdi := (lr_dI gp2 hlr).1
          unfold lrD at hx7
          rw [if_pos hlr, ← hdi] at hx7
          have hxr : ∃ t, x = .ref t := by rw [hdi] at hx7; obtain ⟨t, rfl, _⟩ := dI_ref hx7; exact ⟨_, rfl⟩
          obtain ⟨t7, rfl⟩ := hxr
          refine ⟨.ref t7, rfl, _, rfl, ?_⟩
          rw [decide_eq_false (fun y => by cases y)]
          have e7 := s7 _ _ e6
          have lv := DpAll.len hvs
          rw [List.length_map, List.length_take] at lv
          refine iteF ⟨.ref Fo, rfl, .inl ⟨rfl, _, SqL.of e7⟩, .ref t7, rfl, Fo, _, _, rfl, rfl, e7, small (by omega), ?_⟩
          refine ⟨_, _, _, _, rfl, samePut (s16.trans s7) nFo, upd_same, ?_, fun k u hk hu => ?_⟩
          · rw [take_snoc hw, List.map_append]
            exact DpAll.snoc (((TupK.of s7).trans (TupK.put e7)).dpAll _ _ (to_shs _) hvs6) ((TupK.put e7).dp _ _ (to_sh _) hx7)
          · by_cases y : k < j
            · exact hno k u y hu
            · have : k = j := by omega
              subst this
              rw [hw] at hu
              cases hu
              unfold badW
              rw [Nat.zero_add, hgj]
              show (!shareD g (shW wo)) = false
              rw [hsh]; rfl
        · unfold lrD at hx7
          rw [if_neg hlr] at hx7
          cases hx7
          refine ⟨.non, rfl, _, rfl, ?_⟩
          rw [decide_eq_true rfl]
          have hb : badW gs (0 + j) wo = true := by
            unfold badW
            rw [Nat.zero_add, hgj]
            show (!shareD g (shW wo)) = true
            cases e : shareD g (shW wo) with
            | true => exact absurd ((share_ln gp2).mp e) hlr
            | false => rfl
          exact iteT ⟨.int (j : Nat), rfl, two, fun p np => badj hb _ p s7 np⟩
      · rintro σ H3 ⟨y6, y7, y8, vs, rfl, s5, e5, hvs, hno⟩
        rw [lw] at hvs hno
        rw [List.take_length] at hvs
        have hno' : ∀ k u, ws[k]? = some u → badW gs (0 + k) u = false := fun k u hu => hno k u (List.getElem?_eq_some_iff.mp hu).1 hu
        obtain ⟨hrows, hlen, _⟩ := rows_ln ok hno'
        rw [fbi_none (gs := gs) (k := 0) (ws := ws) hno'] at eR
        dsimp only at eR
        rw [isAD_ln ok hno'] at eR
        have s05 := s1.trans s5
        refine ⟨.ref p, rfl, p, _, rfl, .inl (eL _ s5), .ref ga, rfl, ga, _, rfl, .inr (sqS s05 hgt), _, _, rfl, rfl, _, rfl, ?_⟩
        rw [lw, lxs]
        by_cases hll : ws.length < gs.length
        · rw [decide_eq_true (by omega)]
          rw [decide_eq_false (by omega), Bool.false_and, if_neg Bool.false_ne_true] at eR
          refine iteT ⟨.ref p, rfl, p, _, rfl, .inl (eL _ s5), two, fun p2 np2 => ?_⟩
          rw [lw]
          exact bad0 _ eR _ p2 s05 np2
        have hll : ws.length = gs.length := by omega
        rw [decide_eq_false (by omega)]
        rw [decide_eq_true hll, Bool.true_and] at eR
        refine iteF ?_
        have tk05 := TupK.of s05
        refine ⟨(show (1 : Nat) ≤ sizeLine by decide), fun p0 n0 => ?_⟩
        have s06 := s05.trans (sameNew (o := .lst [.int 0]) n0)
        have hvs6 := (TupK.of (sameNew (o := .lst [.int 0]) n0)).dpAll _ _ (to_shs _) hvs
        have e6 := (sameNew (o := .lst [.int 0]) n0) _ _ e5
        have ez : (upd H3 p0 (.lst [.int 0])) p0 = some (.lst [.int 0]) := upd_same
        generalize upd H3 p0 (.lst [.int 0]) = H6 at s06 hvs6 e6 ez ⊢
        refine ⟨.ref ca, rfl, ca, _, rfl, .inr (sqS s06 hc), p0, _, _, rfl, rfl, ez, by omega, by rw [List.length_map]; omega, ?_, fun Lo nLo => ?_⟩
        · rw [List.length_map]; have := small (n := cs.length) (by omega); simp; omega
        rw [List.length_map, Int.toNat_natCast, zeros_V]
        have s7 := sameNew (o := .lst ((zeros cs.length).map V.int)) nLo
        have s07 := s06.trans s7
        have hvs7 := (TupK.of s7).dpAll _ _ (to_shs _) hvs6
        have e7 := s7 _ _ e6
        have eL7 : (upd H6 Lo (.lst ((zeros cs.length).map V.int))) Lo = some (.lst ((zeros cs.length).map V.int)) := upd_same
        have fLo : H6 Lo = none := nLo
        rw [hrows] at hvs7
        have lvs : vs.length = (lnR ws).length := by have := DpAll.len hvs7; rwa [List.length_map] at this
        generalize hH7 : upd H6 Lo (.lst ((zeros cs.length).map V.int)) = H7 at s7 s07 hvs7 e7 eL7 ⊢
        refine ⟨.ref ga, rfl, .ref Fo, rfl, ga, Fo, xs, vs, rfl, sqS s07 hgt, SqL.of e7, for_it (walk_zipN (K := K) (a := ga) (b := Fo) (xs := xs) (ys := vs) rfl)
          (fun i' σ H2 => ∃ (y8 y10 y11 y12 y13 : Option V), σ = [some (.ref i), some (.str (S a)), some (.ref ca), some (.ref ga), some (.ref p), some (.ref Fo), y6, y7, y8, some (.ref Lo), y10, y11, y12, y13, none, none] ∧ Same H6 H2 ∧ H2 Lo = some (.lst ((loadsFrom (zeros cs.length) (gs.take i') ((lnR ws).take i')).map V.int)))
          ⟨_, _, _, _, _, rfl, s7, by simpa [loadsFrom] using eL7⟩ ?_ ?_ ?_⟩
        · rintro i' σ H2 _ ⟨_, _, _, _, _, rfl, s2, e2⟩
          exact ⟨sqS (s06.trans s2) hgt, SqL.of (s2 _ _ e6)⟩
        · rintro i' v σ H2 H3' hlt ⟨y8, y10, y11, y12, y13, rfl, s2, e2⟩ ⟨T, x, y, rfl, nT, rfl, hx, hy⟩
          have hx' : xs[i']? = some x := hx
          have hy' : vs[i']? = some y := hy
          obtain ⟨d, hd, hxd⟩ := DpAll.at hgs hx'
          rw [List.getElem?_map] at hd
          obtain ⟨g, hgi, rfl⟩ := Option.map_eq_some_iff.mp hd
          obtain ⟨d, hd, hyd⟩ := DpAll.at (show DpAll K H6 vs ((lnR ws).map dI) from hrows ▸ hvs6) hy'
          rw [List.getElem?_map] at hd
          obtain ⟨row, hri, rfl⟩ := Option.map_eq_some_iff.mp hd
          have s3 := s2.trans (sameNew (o := .tup [x, y]) nT)
          obtain ⟨gA, pA, rfl, hG, hP⟩ := grp_ref hxd
          obtain ⟨rA, rfl, hR⟩ := dI_ref hyd
          have e3 : (upd H2 T (.tup [.ref gA, .ref rA])) Lo = some (.lst ((loadsFrom (zeros cs.length) (gs.take i') ((lnR ws).take i')).map V.int)) := upNew nT e2
          have tk3 := TupK.of (s06.trans s3)
          have tk63 := TupK.of s3
          refine ⟨T, _, rfl, SqT.of upd_same, rfl, _, _, rfl, gA, _, rfl, tk3.sq hG, rfl, _, _, rfl, _, _, rfl, rfl, _, _, rfl, rfl, ?_⟩
          refine ⟨.ref pA, rfl, .ref rA, rfl, pA, rA, _, _, rfl, .inr ⟨tk3.sq hP, tk63.sq hR, for_it (walk_zipT (K := K) (a := pA) (b := rA) (xs := g.1.map V.int) (ys := row.map V.int) rfl)
            (fun j σ H4 => ∃ (y12 y13 : Option V), σ = [some (.ref i), some (.str (S a)), some (.ref ca), some (.ref ga), some (.ref p), some (.ref Fo), y6, y7, some (.ref rA), some (.ref Lo), some (.ref pA), some (.int g.2), y12, y13, none, none] ∧ Same H6 H4 ∧
              H4 Lo = some (.lst ((rowLoads (loadsFrom (zeros cs.length) (gs.take i') ((lnR ws).take i')) (g.1.take j) (row.take j)).map V.int)))
            ⟨_, _, rfl, s3, by simpa [rowLoads] using e3⟩ ?_ ?_ ?_⟩⟩
          · rintro j σ H4 _ ⟨_, _, rfl, s4, e4⟩
            exact ⟨(TupK.of (s06.trans s4)).sq hP, (TupK.of s4).sq hR⟩
          · rintro j v σ H4 H5 hltj ⟨y12, y13, rfl, s4, e4⟩ ⟨T2, x, y, rfl, nT2, rfl, hx2, hy2⟩
            have hx2' : (g.1.map V.int)[j]? = some x := hx2
            have hy2' : (row.map V.int)[j]? = some y := hy2
            rw [List.getElem?_map] at hx2' hy2'
            obtain ⟨pp, hpp, rfl⟩ := Option.map_eq_some_iff.mp hx2'
            obtain ⟨nn, hnn, rfl⟩ := Option.map_eq_some_iff.mp hy2'
            have e5' := upNew (o := .tup [.int pp, .int nn]) nT2 e4
            have hpr := (ok.gp g (List.mem_of_getElem? hgi)).2.1 pp (List.mem_of_getElem? hpp)
            obtain ⟨pn, rfl⟩ : ∃ pn : Nat, pp = pn := ⟨pp.toNat, by omega⟩
            have hrl := rowLoads_take (ls := loadsFrom (zeros cs.length) (gs.take i') ((lnR ws).take i')) hpp hnn
            generalize hcur : rowLoads (loadsFrom (zeros cs.length) (gs.take i') ((lnR ws).take i')) (g.1.take j) (row.take j) = cur at e4 e5' hrl
            have hcl : cur.length = cs.length := by rw [← hcur, rowLoads_len, loadsFrom_len]; simp [zeros]
            have hpl : pn < cur.length := by omega
            have hcv : (cur.map V.int)[pn]? = some (.int cur[pn]) := by rw [List.getElem?_map, List.getElem?_eq_getElem hpl]; rfl
            refine ⟨T2, _, rfl, SqT.of upd_same, rfl, _, _, rfl, _, _, rfl, rfl, ?_⟩
            refine ⟨.ref Lo, rfl, .int pn, rfl, Lo, _, pn, .int cur[pn], rfl, rfl, SqL.of e5', atI_nat hcv, .int nn, rfl, _, _, rfl, rfl, .ref Lo, rfl, .int pn, rfl, Lo, _, _, pn, rfl, rfl, e5', ixN_nat (by rw [List.length_map]; exact hpl), ?_⟩
            refine ⟨_, _, rfl, samePut (s4.trans (sameNew nT2)) fLo, ?_⟩
            rw [upd_same, hrl]
            unfold addAt
            rw [Int.toNat_natCast, List.getD_eq_getElem?_getD, List.getElem?_eq_getElem hpl, List.map_set]
            rfl
          · rintro σ H4 ⟨y12, y13, rfl, s4, e4⟩
            refine ⟨_, _, _, _, _, rfl, s4, ?_⟩
            rw [loadsFrom_take hgi hri]
            rw [List.length_map, List.length_map, rowLoads_all] at e4
            exact e4
        · rintro σ H2 ⟨y8, y10, y11, y12, y13, rfl, s2, e2⟩
          rw [lxs, lvs, loadsFrom_all] at e2
          have e2 : H2 Lo = some (.lst ((loadsOf cs.length gs (lnR ws)).map V.int)) := e2
          have s02 := s06.trans s2
          have hc2 := sqS s02 hc
          obtain ⟨ls, els⟩ : ∃ ls, loadsOf cs.length gs (lnR ws) = ls := ⟨_, rfl⟩
          rw [els] at e2 eR
          refine ⟨.ref Lo, rfl, .ref ca, rfl, Lo, ca, _, _, rfl, SqL.of e2, hc2, fun D nD => lc_it (walk_zipM (K := K) (a := Lo) (b := ca) (xs := ls.map V.int) (ys := cs.map V.int) rfl) (LcP H2 D (ls.zip cs) (fun q => if q.2 < q.1 then some (.int 1) else none)) (.start nD) (fun j H4 _ h => ⟨SqL.of (h.1 _ _ e2), sqS h.1 hc2⟩) ?_ ?_⟩
          · rintro j x H4 H5 hj hL ⟨T, x1, y1, rfl, nT, rfl, hx, hy⟩
            have hx' : (ls.map V.int)[j]? = some x1 := hx
            have hy' : (cs.map V.int)[j]? = some y1 := hy
            rw [List.getElem?_map] at hx' hy'
            obtain ⟨lo, hlo, rfl⟩ := Option.map_eq_some_iff.mp hx'
            obtain ⟨ci, hci, rfl⟩ := Option.map_eq_some_iff.mp hy'
            have hz : (ls.zip cs)[j]? = some (lo, ci) := by rw [List.getElem?_zip_eq_some]; exact ⟨hlo, hci⟩
            have hjl := (List.getElem?_eq_some_iff.mp hci).1
            refine ⟨T, _, rfl, SqT.of upd_same, rfl, _, _, rfl, _, _, rfl, rfl, rfl, ?_⟩
            refine ⟨.int lo, rfl, .int ci, rfl, _, _, rfl, rfl, _, rfl, ?_⟩
            by_cases k1 : ci < lo
            · rw [decide_eq_true k1]
              exact iteT (hL.yes nD (sameNew nT) hz (by rw [if_pos k1]) (by omega))
            · rw [decide_eq_false k1]
              exact iteF (hL.no (sameNew nT) hz (by rw [if_neg k1]))
          · rintro H4 hL
            have e4 := hL.done (by rw [List.length_zip, List.length_map, List.length_map]; exact Nat.le_refl _)
            refine ⟨Nat.zero_le _, fun p3 np3 => ⟨D, p3, _, rfl, rfl, SqL.of (upNew np3 e4), SqL.of upd_same, ?_⟩⟩
            have s45 := hL.1.trans (sameNew (o := .lst []) np3)
            have s05' := s02.trans s45
            have e65 := s45 _ _ (s2 _ _ e6)
            have hvs5 := (TupK.of (s2.trans s45)).dpAll _ _ (to_shs _) hvs6
            generalize upd H4 p3 (.lst []) = H5 at s45 s05' e65 hvs5 ⊢
            rw [hem_load]
            refine ⟨_, rfl, ?_⟩
            cases hall : (ls.zip cs).all (fun q => decide (q.1 ≤ q.2)) with
            | false =>
              rw [hall, if_neg Bool.false_ne_true] at eR
              refine iteT ⟨.ref ga, rfl, ga, _, rfl, .inr (sqS s05' hgt), two, fun p4 np4 => ?_⟩
              rw [lxs, ← hll]
              exact bad0 _ eR _ p4 s05' np4
            | true =>
              rw [hall, if_pos rfl] at eR
              refine iteF ⟨.ref Fo, rfl, Fo, _, rfl, .inl ⟨SqL.of e65, fun T nT => ⟨two, fun p4 np4 => ?_⟩⟩⟩
              have sT := sameNew (o := .tup vs) nT
              have s4 := sameNew (o := .lst [.str "told", .ref T]) np4
              refine q _ p4 ((s05'.trans sT).trans s4) ?_
              unfold dueD
              rw [eR]
              exact .lst (SqL.of upd_same) (.cons (.str _) (.cons (.tup (.inl (.inl (s4 _ _ upd_same))) ((TupK.of (sT.trans s4)).dpAll _ _ (to_shs _) hvs5)) .nil))
end
end Pv

namespace Pv
open PySem PySem.Spec PyProof.Rows L2 SX
abbrev sTo : Stmt := topS 38
theorem scTo : FnScope ["_law_instance_here", "_law_value", "_law_told_here", "e"] ["_law_instance_here", "_law_value"] (defScope sTo) := ⟨rfl, rfl, rfl, by decide +kernel, rfl, by decide +kernel, by decide +kernel⟩
section
variable {P : Program} {w : World} {K : PySem.W.Frag} {mg : Str → Option Value} {base : Heap}
theorem paR_to {cs : List Int} {gs : List Gp} {d e : PyData} (h : paR cs gs d = .inr e) : tupOnly e = true := by
  unfold paR at h
  split at h
  · unfold paT at h
    split at h
    · cases h
    · split at h
      · cases h
        simp only [tupOnly]; exact to_shs _
      · cases h
  · cases h
def spTo (K : PySem.W.Frag) : Sp := spDu K
def tsTo (K : PySem.W.Frag) (cBT cBI cBN cNC : Addr) (a : Addr) (cls : Value) (d : Option Addr) : TS :=
  tIfS (tAnd (tB (tCB (rIsX K a cls d) (tCons (tVar 3) (tCons (tC (.ref cBT)) tNil)))) (tNot (tB (tCB (rIsX K a cls d) (tCons (tVar 3) (tCons (tTup (tCons (tC (.ref cBI)) (tCons (tC (.ref cBN)) (tCons (tC (.ref cNC)) (tNil))))) tNil)))))) (tAsg (tLst (tCons (tC (.str "bad")) (tCons (tXf a cls d cBT "index" (tVar 3)) tNil))) (gName 2)) tNext
set_option maxHeartbeats 8000000 in
theorem ok_To {f fPa cVE cBT cBI cBN cNC fiBT : Addr} {fd fdPa : FuncData} (F : Fun K "_law_told" "_law_told" sTo f fd)
    (FPa : Fun K "parse_assignment" "parse_assignment" sPa fPa fdPa) (bPa : Binds K fdPa ["instance", "text"] []) (gPa : mg "parse_assignment" = some (.ref fPa)) (GPa : FnOk P w K mg base (L2.CX P w) 7 fPa fdPa ["instance", "text"] (spPa K cBT))
    (gBT : mg "BadText" = some (.ref cBT)) (gVE : mg "VoteError" = some (.ref cVE)) (gBI : mg "BadInstance" = some (.ref cBI)) (gBN : mg "BadNumber" = some (.ref cBN)) (gNC : mg "NoChange" = some (.ref cNC)) (IBT : IsC K cBT) (XBT : XF K cBT fiBT "index")
    (x1 : PySem.W.exmOne K (.ref cBT) (.ref cVE) = some true) (x2 : PySem.W.kitOne K (.ref cBT) (.ref cBT) = some true) (x3 : PySem.W.kitAny K (.ref cBT) [.ref cBI, .ref cBN, .ref cNC] = some false)
    (m_isinstance : mg "isinstance" = none) :
    FnOk P w K mg base CX0 8 f fd ["_law_instance_here", "_law_value"] (spTo K) := by
  refine F.ok scTo (fun vs H Q E h => ?_) (fun cdv A outer s H vs Q E hr h => ?_)
  · obtain ⟨st, r, i, v, cs, gs, d, rfl, _⟩ := h; rfl
  · obtain ⟨st, r, i, v, cs, gs, d, rfl, hI, ok, hv, hsz, q⟩ := h
    refine ⟨_, pss_cons (ps_set (i := 2) scTo.nd rfl (.inl rfl) pe_non)
      (pss_cons (ps_try_as (i := 3) (tb := fun W => tAsg (tLst (tCons (tC (.str "told")) (tCons (tCallS (spPa K cBT) (WE W) (tCons (tVar 0) (tCons (tVar 1) (tNil)))) tNil))) (gName 2)) (ts := tsTo K cBT cBI cBN cNC) (Wout := fun _ _ _ _ => False) rfl rfl scTo.nd rfl rfl ⟨rfl, by decide, Or.inl gVE⟩ takes0
        (fun W pn xe tk _ => pss_one (ps_set (i := 2) scTo.nd rfl (.inl rfl) (pe_lst (pa_cons pe_str (pa_cons (by exact (pe_callS GPa (hr.mono (by omega)) rfl gPa FPa.kp bPa (fun σ => passAt tk σ) (by exact (pa_cons (pv 0) (pa_cons (pv 1) (pa_nil)))))) pa_nil)))))
        (fun a oe cls d pn hz hf => by
          refine pss_one (ps_if (PW.pt (pw_and (pt_val (pe_callB (call_isX hz hf) (by rfl) m_isinstance (by decide +kernel) (pa_cons (pv 3) (pa_cons (pe_glob (v := .ref cBT) (by rfl) gBT rfl) pa_nil)))) (pw_and1 (pt_not (pt_val (pe_callB (call_isX hz hf) (by rfl) m_isinstance (by decide +kernel) (pa_cons (pv 3) (pa_cons (pe_tup (pa_cons (pe_glob (v := .ref cBI) (by rfl) gBI rfl) (pa_cons (pe_glob (v := .ref cBN) (by rfl) gBN rfl) (pa_cons (pe_glob (v := .ref cNC) (by rfl) gNC rfl) (pa_nil))))) pa_nil)))))))) (pss_one (ps_set (i := 2) scTo.nd rfl (.inl rfl) (pe_lst (pa_cons pe_str (pa_cons (pe_xf XBT.rd XBT.no hz hf (pv 3)) pa_nil))))) pss_nil)))
      (pss_one (ps_ret (pv 2)))), ?_⟩
    refine ⟨.ref i, rfl, v, rfl, st, r, i, v, cs, gs, d, rfl, hI, ok, hv, fun a ha => (hsz a ha).1, fun e he H2 x s2 hx => ?_, fun o ho H2 dx s2 nd => ?_⟩
    · refine ⟨(show (2 : Nat) ≤ sizeLine by decide), fun p np => ⟨_, rfl, q _ p (s2.trans (sameNew np)) ?_⟩⟩
      unfold dueD
      rw [he]
      exact .lst (SqL.of upd_same) (.cons (.str _) (.cons ((TupK.of (sameNew np)).dp _ _ (paR_to he) hx) .nil))
    · refine ⟨true, x1, fun _ e ne => ?_, fun z => nomatch z⟩
      have sx := s2.trans (sameNew (o := .xd [("index", oV o)]) nd)
      refine ⟨.ref e, rfl, cBT, .ref cBT, true, rfl, IBT, (fun _ z => by cases z; exact ⟨_, upd_same⟩), rfl, .inl ⟨_, .own _, x2⟩, _, rfl, iteT ?_⟩
      refine ⟨.ref e, rfl, (show (3 : Nat) ≤ sizeLine by decide), fun T nT => ?_⟩
      refine ⟨cBT, .ref T, false, rfl, IBT, (fun _ z => by cases z; exact ⟨_, upNew nT upd_same⟩), rfl, .inr ⟨T, _, _, rfl, upd_same, .cons (.own _) (.cons (.own _) (.cons (.own _) (.nil))), x3⟩, _, rfl, iteT ?_⟩
      have sT := sx.trans (sameNew (o := .tup [.ref cBI, .ref cBN, .ref cNC]) nT)
      refine ⟨.ref e, rfl, rfl, rfl, dx, _, _, rfl, upNew nT upd_same, rfl, (show (2 : Nat) ≤ sizeLine by decide), fun p np => ?_⟩
      refine ⟨_, rfl, q _ p (sT.trans (sameNew np)) ?_⟩
      unfold dueD
      rw [ho]
      exact .lst (SqL.of upd_same) (.cons (.str _) (.cons (oV_oD _) .nil))
end
end Pv

namespace Pv
open PySem PySem.Spec PyProof.Rows L2 SX
abbrev sMv : Stmt := topS 39
theorem scMv : FnScope ["_law_deck_here", "_law_assignment_here", "_law_group", "_law_row_here", "_law_one_here", "_law_other"] ["_law_deck_here", "_law_assignment_here"] (defScope sMv) := ⟨rfl, rfl, rfl, by decide +kernel, rfl, by decide +kernel, by decide +kernel⟩
section
variable {P : Program} {w : World} {K : PySem.W.Frag} {mg : Str → Option Value} {base : Heap}
def spMv (K : PySem.W.Frag) : Sp := fun vs H Q _ => ∃ (st c r A : Addr) (t : Nat) (rows : List (List Int)), vs = [.ref st, .ref A] ∧ DS H st c r t ∧ t + 20 ≤ 1000000 ∧ Dp K H (.ref A) (dAsg rows) ∧ (1 ≤ rows.length ∧ rows.length ≤ 10) ∧ (∀ row ∈ rows, 1 ≤ row.length ∧ row.length ≤ 7 ∧ ∀ x ∈ row, 0 ≤ x ∧ x ≤ 10 ^ 12) ∧
  ∀ (H' : Hp) (p : Addr) (t' : Nat) (rows2 : List (List Int)), DS H' st c r t' → t' ≤ t + 10 → Ext st r H H' → Dp K H' (.ref p) (dAsg rows2) → rows2.length ≤ 10 → (∀ row ∈ rows2, 1 ≤ row.length ∧ row.length ≤ 7 ∧ ∀ x ∈ row, 0 ≤ x ∧ x ≤ 10 ^ 12 + 1) → Q (.ref p) H'
set_option maxHeartbeats 8000000 in
theorem ok_Mv {f fDr : Addr} {fd fdDr : FuncData} (F : Fun K "_law_moved" "_law_moved" sMv f fd)
    (FDr : Fun K "_law_next" "_law_next" sDraw fDr fdDr) (bDr : Binds K fdDr ["_law_deck_here", "_law_many"] []) (gDr : mg "_law_next" = some (.ref fDr)) (GDr : FnOk P w K mg base CX0 1 fDr fdDr ["_law_deck_here", "_law_many"] spDraw)
    (m_len : mg "len" = none) (m_list : mg "list" = none) (m_tuple : mg "tuple" = none) :
    FnOk P w K mg base CX0 3 f fd ["_law_deck_here", "_law_assignment_here"] (spMv K) := by
  refine F.ok scMv (fun vs H Q E h => ?_) (fun cdv A outer s H vs Q E hr h => ?_)
  · obtain ⟨st, c, r, aa, t, rows, rfl, _⟩ := h; rfl
  · obtain ⟨st, c, r, aa, t, rows, rfl, hd, ht, hA, hl, hb, q⟩ := h
    refine ⟨_, pss_cons (ps_set (i := 2) scMv.nd rfl (.inl rfl) (pe_call GDr (hr.mono (by omega)) (by rfl) gDr FDr.kp bDr .nil pass0 (pa_cons (pv 0) (pa_cons (pe_callB call_lenQ (by rfl) m_len PySem.boot_len (pa_cons (pv 1) pa_nil)) pa_nil))))
      (pss_cons (ps_set (i := 3) scMv.nd rfl (.inl rfl) (pe_callTy call_list_of (by rfl) m_list (by decide +kernel) (pa_cons (pe_ix ix_tup (pv 1) (pv 2) (fun _ _ => rfl)) pa_nil)))
      (pss_cons (ps_par (i := 4) (j := 5) rfl scMv.nd rfl rfl (by decide) rfl rfl (pa_cons (pe_call GDr (hr.mono (by omega)) (by rfl) gDr FDr.kp bDr .nil pass0 (pa_cons (pv 0) (pa_cons (pe_callB call_lenQ (by rfl) m_len PySem.boot_len (pa_cons (pv 3) pa_nil)) pa_nil))) (pa_cons (pe_call GDr (hr.mono (by omega)) (by rfl) gDr FDr.kp bDr .nil pass0 (pa_cons (pv 0) (pa_cons (pe_callB call_lenQ (by rfl) m_len PySem.boot_len (pa_cons (pv 3) pa_nil)) pa_nil))) pa_nil)) rfl)
      (pss_cons (ps_asg (pe_op op_add (pe_ix ix_list (pv 3) (pv 4) (fun _ _ => rfl)) (pe_int)) (pg_sub (pv 3) (pv 4) set_list))
      (pss_cons (ps_if (PW.pt (pw_and (pt_cmpR op_gt (pe_ix ix_list (pv 3) (pv 5) (fun _ _ => rfl)) (pe_int) (nomark _)) (pw_and1 (pt_cmpR op_gt (pe_call GDr (hr.mono (by omega)) (by rfl) gDr FDr.kp bDr .nil pass0 (pa_cons (pv 0) (pa_cons (pe_int) pa_nil))) (pe_int) (nomark _)))))
        (pss_one (ps_asg (pe_op op_sub (pe_ix ix_list (pv 3) (pv 5) (fun _ _ => rfl)) (pe_int)) (pg_sub (pv 3) (pv 5) set_list))) pss_nil)
      (pss_one (ps_ret (pe_op op_catA (pe_op op_catA (pe_slice sl_tupA (pv 1) po_none (po_some (pv 2))) (pe_tup (pa_cons (pe_callTy call_tupQ (by rfl) m_tuple (by decide +kernel) (pa_cons (pv 3) pa_nil)) pa_nil))) (pe_slice sl_tupA (pv 1) (po_some (pe_op op_add (pv 2) (pe_int))) po_none)))))))), ?_⟩
    obtain ⟨aA, ys, eA, ha, hrows⟩ := asg_open hA
    cases eA
    have lys : ys.length = rows.length := by have := DpAll.len hrows; rwa [List.length_map] at this
    refine ⟨.ref st, rfl, .ref aa, rfl, aa, _, rfl, .inr ha, st, c, r, t, _, rfl, hd, by omega, by omega, by omega, fun H1 gi h10 h11 D1 X1 => ?_⟩
    rw [lys] at h11
    obtain ⟨gk, rfl⟩ : ∃ n : Nat, gi = n := ⟨gi.toNat, by omega⟩
    have hgl : gk < rows.length := by omega
    have hrow : rows[gk]? = some rows[gk] := List.getElem?_eq_getElem hgl
    obtain ⟨row, erow⟩ : ∃ row, rows[gk] = row := ⟨_, rfl⟩
    rw [erow] at hrow
    obtain ⟨b1, b2, b3⟩ := hb row (List.mem_of_getElem? hrow)
    have tk1 := X1.tup hd
    obtain ⟨xv, hxv, hxd⟩ := dp_at (tk1.dpAll _ _ (to_rows _) hrows) (show (rows.map dI)[gk]? = some (dI row) by rw [List.getElem?_map, hrow]; rfl)
    obtain ⟨rA, rfl, hR⟩ := dI_ref hxd
    refine ⟨.ref aa, rfl, .int gk, rfl, aa, _, _, .ref rA, rfl, rfl, tk1.sq ha, atI_nat hxv, rA, _, rfl, .inr hR, fun Lr nLr => ?_⟩
    have oLr := D1.off nLr
    have fLr := X1.nil D1 nLr
    have D2 := D1.new nLr (o := .lst (row.map V.int))
    have x2 := X1.trans (Ext.of (sameNew (o := .lst (row.map V.int)) nLr))
    have eL2 : (upd H1 Lr (.lst (row.map V.int))) Lr = some (.lst (row.map V.int)) := upd_same
    generalize upd H1 Lr (.lst (row.map V.int)) = H2 at D2 x2 eL2 ⊢
    refine ⟨.ref st, rfl, .ref Lr, rfl, Lr, _, rfl, .inl (SqL.of eL2), st, c, r, t + 1, _, rfl, D2, by omega, by rw [List.length_map]; omega, by rw [List.length_map]; omega, fun H3 oi h30 h31 D3 X3 => ?_⟩
    have eL3 := X3 _ _ eL2 oLr.1 oLr.2.2
    rw [List.length_map] at h31
    refine ⟨.ref st, rfl, .ref Lr, rfl, Lr, _, rfl, .inl (SqL.of eL3), st, c, r, t + 2, _, rfl, D3, by omega, by rw [List.length_map]; omega, by rw [List.length_map]; omega, fun H4 ui h40 h41 D4 X4 => ⟨_, _, rfl, ?_⟩⟩
    rw [List.length_map] at h41
    have eL4 := X4 _ _ eL3 oLr.1 oLr.2.2
    have x4 := (x2.trans X3).trans X4
    obtain ⟨o, rfl⟩ : ∃ n : Nat, oi = n := ⟨oi.toNat, by omega⟩
    obtain ⟨u, rfl⟩ : ∃ n : Nat, ui = n := ⟨ui.toNat, by omega⟩
    have hol : o < row.length := by omega
    have hov : (row.map V.int)[o]? = some (.int row[o]) := by rw [List.getElem?_map, List.getElem?_eq_getElem hol]; rfl
    have bo := b3 row[o] (List.getElem_mem hol)
    refine ⟨.ref Lr, rfl, .int o, rfl, Lr, _, _, .int row[o], rfl, rfl, SqL.of eL4, atI_nat hov, _, _, rfl, rfl, .ref Lr, rfl, .int o, rfl, Lr, _, _, o, rfl, rfl, eL4, ixN_nat (by rw [List.length_map]; exact hol), ?_⟩
    rw [← List.map_set]
    obtain ⟨row2, er2⟩ : ∃ row2, row.set o (row[o] + 1) = row2 := ⟨_, rfl⟩
    rw [er2]
    have l2 : row2.length = row.length := by rw [← er2, List.length_set]
    have b2' : ∀ x ∈ row2, 0 ≤ x ∧ x ≤ 10 ^ 12 + 1 := fun x hx => by
      rw [← er2] at hx
      rcases List.mem_or_eq_of_mem_set hx with h | h
      · have := b3 x h; omega
      · omega
    have D5 := D4.put (o := .lst (row2.map V.int)) oLr.1 oLr.2.1 oLr.2.2
    have x5 := ExtPut (o := .lst (row2.map V.int)) x4 fLr
    have eL5 : (upd H4 Lr (.lst (row2.map V.int))) Lr = some (.lst (row2.map V.int)) := upd_same
    generalize upd H4 Lr (.lst (row2.map V.int)) = H5 at D5 x5 eL5 ⊢
    dsimp only
    refine (id ?_ : tSeq (tIfS _ _ _) _ _ _ _)
    refine seq_with (fun σ Hx => ∃ (row3 : List Int) (t' : Nat), σ = [some (.ref st), some (.ref aa), some (.int gk), some (.ref Lr), some (.int o), some (.int u)] ∧ DS Hx st c r t' ∧ t' ≤ t + 10 ∧ Ext st r H Hx ∧ Hx Lr = some (.lst (row3.map V.int)) ∧ row3.length = row.length ∧ ∀ x ∈ row3, 0 ≤ x ∧ x ≤ 10 ^ 12 + 1) (fun σ Hx h => ?_) (fun rest => ?_)
    · obtain ⟨row3, t', rfl, Dx, htx, xx, eLx, l3, b3'⟩ := h
      have tkx := xx.tup hd
      have hax := tkx.sq ha
      have hrx := tkx.dpAll _ _ (to_rows _) hrows
      refine ⟨.ref aa, rfl, .int gk, rfl, _, rfl, take_eq hax gk (fun H1 b s1 hb1 => ⟨.ref Lr, rfl, Lr, _, rfl, .inl ⟨SqL.of (s1 _ _ eLx), fun Tr nTr => ⟨(show (1 : Nat) ≤ sizeLine by decide), fun T nT => ?_⟩⟩⟩)⟩
      have sTr := sameNew (o := .tup (row3.map V.int)) nTr
      have sT := sameNew (o := .tup [.ref Tr]) nT
      have s1T := sTr.trans sT
      have hTr := (TupK.of sT).sq (SqT.of (K := K) (upd_same (a := Tr) (H := H1) (o := .tup (row3.map V.int))))
      refine cat_eq ((TupK.of s1T).sq hb1) (SqT.of upd_same) (Nat.le_of_lt (small (by rw [List.length_take]; simp; omega))) (fun H2 p2 s2 h2 => ⟨.ref aa, rfl, .int gk, rfl, _, _, rfl, rfl, _, rfl, ?_⟩)
      have s02 := (s1.trans s1T).trans s2
      dsimp only [tNoPart]
      rw [show ((gk : Int) + 1) = ((gk + 1 : Nat) : Int) by omega]
      refine drop_eq ((TupK.of s02).sq hax) (gk + 1) (fun H3 p3 s3 h3 => ?_)
      refine cat_eq ((TupK.of s3).sq h2) h3 (Nat.le_of_lt (small (by simp [List.length_take, List.length_drop]; omega))) (fun H4 p4 s4 h4 => ?_)
      have s04 := (s02.trans s3).trans s4
      have e : ys.set gk (.ref Tr) = (ys.take gk ++ [.ref Tr]) ++ ys.drop (gk + 1) := by rw [List.set_eq_take_append_cons_drop, if_pos (by omega)]; simp
      rw [← e] at h4
      have hset : DpAll K H4 (ys.set gk (.ref Tr)) ((rows.set gk row3).map dI) := by
        have h := DpAll.set gk ((TupK.of s04).dpAll _ _ (to_rows _) hrx) ((TupK.of ((s2.trans s3).trans s4)).dp _ _ (to_dI _) (dI_sq hTr))
        rw [← List.map_set] at h
        exact h
      refine q H4 p4 t' (rows.set gk row3) (Dx.same s04) (by omega) (xx.trans (Ext.of s04)) (.tup h4 hset) (by rw [List.length_set]; omega) (fun rw' hrw => ?_)
      rcases List.mem_or_eq_of_mem_set hrw with h | h
      · have := hb rw' h
        exact ⟨this.1, this.2.1, fun x hx => by have := this.2.2 x hx; omega⟩
      · rw [h]
        exact ⟨by omega, by omega, b3'⟩
    have hul : u < row2.length := by omega
    have huv : (row2.map V.int)[u]? = some (.int row2[u]) := by rw [List.getElem?_map, List.getElem?_eq_getElem hul]; rfl
    have bu := b2' row2[u] (List.getElem_mem hul)
    refine ⟨.ref Lr, rfl, .int u, rfl, Lr, _, _, .int row2[u], rfl, rfl, SqL.of eL5, atI_nat huv, _, _, rfl, rfl, _, rfl, ?_⟩
    by_cases h0 : 0 < row2[u]
    · rw [decide_eq_true h0]
      refine iteT ⟨.ref st, rfl, st, c, r, t + 3, 3, rfl, D5, by omega, by decide, by decide, fun H6 z h60 h61 D6 X6 => ⟨_, _, rfl, rfl, _, rfl, ?_⟩⟩
      have eL6 := X6 _ _ eL5 oLr.1 oLr.2.2
      have x6 := x5.trans X6
      refine ite2 (fun _ => ?_) (fun _ => ?_)
      · refine ⟨.ref Lr, rfl, .int u, rfl, Lr, _, _, .int row2[u], rfl, rfl, SqL.of eL6, atI_nat huv, _, _, rfl, rfl, .ref Lr, rfl, .int u, rfl, Lr, _, _, u, rfl, rfl, eL6, ixN_nat (by rw [List.length_map]; exact hul), ?_⟩
        rw [← List.map_set]
        refine rest _ _ ⟨row2.set u (row2[u] - 1), t + 4, rfl, D6.put oLr.1 oLr.2.1 oLr.2.2, by omega, ExtPut x6 fLr, upd_same, by rw [List.length_set]; exact l2, fun x hx => ?_⟩
        rcases List.mem_or_eq_of_mem_set hx with h | h
        · exact b2' x h
        · omega
      · exact rest _ _ ⟨row2, t + 4, rfl, D6, by omega, x6, eL6, l2, b2'⟩
    · rw [decide_eq_false h0]
      exact iteF (rest _ _ ⟨row2, t + 3, rfl, D5, by omega, x5, eL5, l2, b2'⟩)
end
end Pv

namespace Pv
open PySem PySem.Spec PyProof.Rows L2 SX
/-! how long numbers' texts are -/
theorem num13 {i : Int} (h : i ≤ 10 ^ 12) : (numT i).length ≤ 13 := TL.numL_len (by decide) (by
  have : i.toNat ≤ 10 ^ 12 := by omega
  exact Nat.lt_of_le_of_lt this (by decide))
theorem num1 {i : Int} (h : i < 10) : (numT i).length ≤ 1 := by
  unfold numT
  rw [TL.numL_lt (by omega)]; simp
theorem wt1_nums {ns : List Int} {M : Nat} (h : ∀ n ∈ ns, (numT n).length ≤ M) : wt1 (ns.map numT) ≤ ns.length * (M + 1) := by
  have := wt1_mem (l := ns.map numT) (M := M) fun w hw => by
    obtain ⟨n, hn, rfl⟩ := List.mem_map.mp hw
    exact h n hn
  rwa [List.length_map] at this
theorem wt1_cons (w : List Nat) (l : List (List Nat)) : wt1 (w :: l) = w.length + 1 + wt1 l := by
  unfold wt1
  rw [List.map_cons, List.sum_cons, List.length_cons]; omega
end Pv

namespace Pv
open PySem PySem.Spec PyProof.Rows L2 SX
theorem lasts_put {st r D : Addr} {H H1 : Hp} {o : HO} (l : Lasts st r H H1) (nD : H D = none) : Lasts st r H (upd H1 D o) := by
  refine ⟨fun b xs => ⟨fun h => ?_, fun u h => ?_⟩, fun b xs h h1 h2 => ?_, fun b kvs h => ?_⟩
  · rw [upd_ne (ne_of_none h nD)]; exact (l.tk b xs).1 h
  · rw [upd_ne (ne_of_none h nD)]; exact (l.tk b xs).2 u h
  · rw [upd_ne (ne_of_none h nD)]; exact l.ls b xs h h1 h2
  · rw [upd_ne (ne_of_none h nD)]; exact l.dk b kvs h
theorem repZ {K : PySem.W.Frag} {H : Hp} {l : Addr} {n : Nat} {Q : VK} (h : SqT K H l [.int 0]) (h6 : n ≤ 1000) (q : ∀ (H' : Hp) (p : Addr), Same H H' → SqT K H' p ((zeros n).map V.int) → Q (.ref p) H') : rRepA K (.ref l) (.int (n : Nat)) H Q := by
  refine ⟨l, n, [.int 0], rfl, rfl, h, by simp, h6, by simp, fun e => ?_, fun _ p np => ?_⟩
  · subst e; exact q H l (Same.refl _) h
  · exact q _ p (sameNew np) (SqT.of (by rw [upd_same, zeros_V]))
def asgT (rows : List (List Int)) : List Nat := TL.joinL [32] (rows.map rowT)
def RowsOk (rows : List (List Int)) : Prop := rows.length ≤ 10 ∧ ∀ row ∈ rows, 1 ≤ row.length ∧ row.length ≤ 7 ∧ ∀ x ∈ row, 0 ≤ x ∧ x ≤ 10 ^ 12 + 1
theorem n13 {i : Int} (h : i ≤ 10 ^ 12 + 1) : (numT i).length ≤ 13 := TL.numL_len (by decide) (by
  have : i.toNat ≤ 10 ^ 12 + 1 := by omega
  exact Nat.lt_of_le_of_lt this (by decide))
theorem rowT_98 {row : List Int} (h : row.length ≤ 7 ∧ ∀ x ∈ row, 0 ≤ x ∧ x ≤ 10 ^ 12 + 1) : (rowT row).length ≤ 98 := by
  have h1 := join_wt 44 (row.map numT)
  have h2 := wt1_nums (ns := row) (M := 13) fun n hn => n13 (h.2 n hn).2
  have h3 := Nat.mul_le_mul_right 14 h.1
  unfold rowT
  omega
theorem asgT_1000 {rows : List (List Int)} (h : RowsOk rows) : (asgT rows).length ≤ 1000 := by
  have h1 := join_wt 32 (rows.map rowT)
  have h2 := wt1_mem (l := rows.map rowT) (M := 98) fun w hw => by
    obtain ⟨r, hr, rfl⟩ := List.mem_map.mp hw
    exact rowT_98 (h.2 r hr).2
  rw [List.length_map] at h2
  have h3 := Nat.mul_le_mul_right 99 h.1
  unfold asgT
  omega
theorem asgT_dg {rows : List (List Int)} (h : RowsOk rows) : RB dg 13 (asgT rows) := RB.join (by decide) fun w hw => by
  obtain ⟨r, hr, rfl⟩ := List.mem_map.mp hw
  refine RB.join (by decide) fun u hu => ?_
  obtain ⟨n, hn, rfl⟩ := List.mem_map.mp hu
  exact RB.len (n13 ((h.2 r hr).2.2 n hn).2)
theorem asgT_cs {rows : List (List Int)} : ∀ c ∈ asgT rows, c ≠ 10 ∧ c < 128 := fun c hc => by
  rcases mem_join hc with e | ⟨w, hw, e⟩
  · omega
  · obtain ⟨r, hr, rfl⟩ := List.mem_map.mp hw
    rcases mem_join e with f | ⟨u, hu, f⟩
    · omega
    · obtain ⟨n, hn, rfl⟩ := List.mem_map.mp hu
      have := numT_dig n c f
      omega
structure GS (b : List Nat) : Prop where
  len : b.length ≤ 80000
  dg : RB dg 640 b
  cs : ∀ c ∈ b, c < 128
theorem gs_good {b : List Nat} (h : GS b) : Good (.str (S b)) := fun a e => by
  have : a = b := (S_inj (PyData.str.inj e)).symm
  rw [this]
  exact ⟨h.len, h.dg⟩
theorem gs_asg {rows : List (List Int)} (h : RowsOk rows) : GS (asgT rows) := ⟨by have := asgT_1000 h; omega, (asgT_dg h).mono (by decide), fun c hc => (asgT_cs c hc).2⟩
theorem gs_app {a b : List Nat} {B : Nat} (ha : a.length ≤ 1000) (da : RB dg B a) (ca : ∀ c ∈ a, c < 128) (hb : b.length ≤ 10) (hB : B ≤ 600) (cb : ∀ c ∈ b, c < 128) : GS (a ++ b) :=
  ⟨by rw [List.length_append]; omega, (da.app (RB.len hb)).mono (by omega), fun c hc => (List.mem_append.mp hc).elim (ca c) (cb c)⟩
theorem gs_show {b : List Nat} (h : GS b) : (PyData.str (S b)).showable = true ∧ (PyData.str (S b)).depth ≤ 60 ∧ (PyData.str (S b)).shown.length ≤ sizeLine := by
  refine ⟨rfl, by simp [PyData.depth], ?_⟩
  have := StrLaws.reprText_len (S b) (fun c hc => Nat.lt_trans (h.cs c hc) (by decide))
  have e := S_len b
  have hl := h.len
  have sz : (10 : Nat) * 80000 + 2 ≤ sizeLine := by decide
  show (reprText (S b)).length ≤ sizeLine
  omega
theorem fit_show {M : Nat} (hM : M < 10 ^ 35) {k W : Nat} {a : PyData} (ha : Fit M k W a) (hk : k ≤ 50) (hW : W ≤ 1000000) : a.showable = true ∧ a.depth ≤ 60 ∧ a.shown.length ≤ sizeLine := by
  obtain ⟨s1, s2⟩ := fit_ok hM ha.ok
  refine ⟨s1, Nat.le_trans ha.dp (by omega), Nat.le_trans s2 (Nat.le_trans ha.wt ?_)⟩
  rw [sizeLine_eq]; omega
theorem cut_last (xs : List V) : cutV xs none (some (-1)) = xs.dropLast := by
  unfold cutV
  rw [HT.sIx_none, List.drop_zero, Nat.sub_zero, List.dropLast_eq_take]
  congr 1
  unfold HT.sIx
  simp
  omega
theorem plainAll_of {ds : List PyData} (h : ∀ d ∈ ds, plain d = true) : plainAll ds = true := by
  induction ds with
  | nil => rfl
  | cons d ds ih => simp [plainAll, h d (by simp), ih (fun e he => h e (by simp [he]))]
theorem depthAll_of {k : Nat} {ds : List PyData} (h : ∀ d ∈ ds, d.depth ≤ k) : PyData.depthAll ds ≤ k := by
  induction ds with
  | nil => simp [PyData.depthAll]
  | cons d ds ih =>
    have h1 := h d (by simp)
    have h2 := ih (fun e he => h e (by simp [he]))
    simp only [PyData.depthAll]; omega
theorem plain_ns {ns : List Int} (h : ns.length ≤ 1000) : plain (dI ns) = true := by
  simp only [dI, plain, List.length_map, Bool.and_eq_true, decide_eq_true_eq]
  exact ⟨h, plainAll_of (by intro d hd; obtain ⟨n, _, rfl⟩ := List.mem_map.mp hd; rfl)⟩
theorem depth_ns (ns : List Int) : (dI ns).depth ≤ 1 := by
  have : PyData.depthAll (ns.map PyData.int) ≤ 0 := depthAll_of (by intro d hd; obtain ⟨n, _, rfl⟩ := List.mem_map.mp hd; simp [PyData.depth])
  simp only [dI, PyData.depth]; omega
theorem due_plain {cs : List Int} {gs : List Gp} (ok : InsOk cs gs) (d : PyData) : plain (dueD cs gs d) = true ∧ (dueD cs gs d).depth ≤ 5 := by
  have hbad : ∀ o, plain (.list [.str "bad", oD o]) = true ∧ (PyData.list [.str "bad", oD o]).depth ≤ 5 := fun o => by
    cases o <;> exact ⟨by simp [plain, plainAll, oD], by simp [PyData.depth, PyData.depthAll, oD]⟩
  unfold dueD
  cases e : paR cs gs d with
  | inl o => exact hbad o
  | inr x =>
    dsimp only
    have hx : plain x = true ∧ x.depth ≤ 2 := by
      unfold paR at e
      split at e
      · rename_i z
        unfold paT at e
        split at e
        · cases e
        · split at e
          · rename_i hAD
            cases e
            rw [isAD_tup, Bool.and_eq_true, Bool.and_eq_true] at hAD
            have hl := of_decide_eq_true hAD.1
            have g10 := ok.g10
            have hall : ∀ d ∈ (wds 32 z.cps.toList).map shW, plain d = true ∧ d.depth ≤ 1 := fun d hd => by
              obtain ⟨k, hk, e⟩ := List.getElem_of_mem hd
              have hkg : k < gs.length := by omega
              have hz := zip_at hAD.2.1 (List.getElem?_eq_getElem hkg) (by rw [List.getElem?_eq_getElem hk, e])
              obtain ⟨h1, h2, _⟩ := shareD_row hz
              have := (ok.gp gs[k] (List.getElem_mem hkg)).1
              rw [h1]
              exact ⟨plain_ns (by omega), depth_ns _⟩
            have a1 := plainAll_of fun d hd => (hall d hd).1
            have a2 := depthAll_of fun d hd => (hall d hd).2
            rw [List.length_map] at hl
            exact ⟨by simp only [plain, Bool.and_eq_true, decide_eq_true_eq, List.length_map]; exact ⟨by omega, a1⟩, by simp only [PyData.depth]; omega⟩
          · cases e
      · cases e
    exact ⟨by simp [plain, plainAll, hx.1], by simp only [PyData.depth, PyData.depthAll]; omega⟩
theorem rows_of {cs : List Int} {gs : List Gp} {rows : List (List Int)} (ok : InsOk cs gs) (h : isAD cs gs (dAsg rows) = true) : 1 ≤ rows.length ∧ rows.length ≤ 10 ∧ ∀ row ∈ rows, 1 ≤ row.length ∧ row.length ≤ 7 ∧ ∀ x ∈ row, 0 ≤ x ∧ x ≤ 10 ^ 12 := by
  unfold dAsg at h
  rw [isAD_tup, Bool.and_eq_true, Bool.and_eq_true, List.length_map] at h
  have hl := of_decide_eq_true h.1
  have h10 := ok.g10
  have h1 := ok.g1
  refine ⟨by omega, by omega, fun r hr' => ?_⟩
  obtain ⟨k, hk, e⟩ := List.getElem_of_mem hr'
  have hrk : rows[k]? = some r := by rw [List.getElem?_eq_getElem hk, e]
  have hgk : gs[k]? = some gs[k] := List.getElem?_eq_getElem (by omega)
  have hz := zip_at h.2.1 (i := k) hgk (d := dI r) (by rw [List.getElem?_map, hrk]; rfl)
  rw [shareD_dI, Bool.and_eq_true] at hz
  obtain ⟨g6, _, _, g12⟩ := ok.gp _ (List.mem_of_getElem? hgk)
  have hlen := of_decide_eq_true hz.1
  refine ⟨by omega, by omega, fun n hn => ?_⟩
  have hb := hz.2
  unfold shareOk at hb
  rw [Bool.and_eq_true, List.all_eq_true] at hb
  have := of_decide_eq_true (hb.1 n hn)
  omega
end Pv

namespace Pv
open PySem PySem.Spec PyProof.Rows L2
section
variable {X : Cx} {e : Expr}
theorem lit_neg {n : Int} (h : PE X e (tUn (rU fun i => .int (-i)) (tC (.int n)))) : PE X e (tLit X.K (.int (-n))) :=
  pe_mono h fun σ H Q ⟨st, r, _, q⟩ => ⟨n, rfl, q H _ (Same.refl H) (.int _)⟩
theorem lit_a1 (h : PE X e (tDisp [(tC (.str "a"), tC (.int 1))])) : PE X e (tLit X.K (.dict [(.str "a", .int 1)])) :=
  pe_mono h fun σ H Q ⟨st, r, oc, q⟩ => fun p np => ⟨upd_same, [(.inr "a", .int 1)], rfl, by decide, by
    rw [upd_upd]
    exact q _ _ (sameNew np) (.dct (kvs := [(.inr "a", 1)]) (by rw [upd_same]; rfl))⟩
end
section
variable {K : PySem.W.Frag} {H : Hp} {a b : Addr} {xs ys : List V} {Q : VK}
theorem sl_any (hP : SqT K H a xs) (lo hi : Option Int) (h : ∀ (H' : Hp) (b : Addr), Same H H' → SqT K H' b (cutV xs lo hi) → Q (.ref b) H') : rSlA K (.ref a) lo hi H Q := by
  refine ⟨a, _, rfl, hP, fun hw => ?_, fun _ p np => ?_⟩
  · refine h H a (Same.refl _) ?_
    have e : cutV xs lo hi = xs := by
      unfold cutV
      rw [hw.1, hw.2, List.drop_zero, Nat.sub_zero, List.take_length]
    rw [e]; exact hP
  · exact h _ p (sameNew np) (SqT.of upd_same)
theorem cut_ints (xs : List Int) (lo hi : Option Int) : ∃ zs : List Int, cutV (xs.map V.int) lo hi = zs.map V.int ∧ zs.length ≤ xs.length ∧ ∀ z ∈ zs, z ∈ xs := by
  unfold cutV
  generalize HT.sIx (xs.map V.int).length 0 lo = m
  generalize HT.sIx (xs.map V.int).length (xs.map V.int).length hi - m = n
  refine ⟨(xs.drop m).take n, by rw [List.map_take, List.map_drop], ?_, fun z hz => List.mem_of_mem_drop (List.mem_of_mem_take hz)⟩
  rw [List.length_take, List.length_drop]; omega
end
/-! a tuple of ints, of at most L and at most M in size -/
def IT (K : PySem.W.Frag) (H : Hp) (p : Addr) (L M : Nat) : Prop := ∃ xs : List Int, SqT K H p (xs.map V.int) ∧ xs.length ≤ L ∧ ∀ x ∈ xs, x.natAbs ≤ M
section
variable {K : PySem.W.Frag} {H H' : Hp} {a b : Addr} {L L' M M' : Nat} {Q : VK}
theorem IT.tk (h : IT K H a L M) (s : TupK H H') : IT K H' a L M := by obtain ⟨xs, h1, h2⟩ := h; exact ⟨xs, s.sq h1, h2⟩
theorem IT.same (h : IT K H a L M) (s : Same H H') : IT K H' a L M := h.tk (.of s)
theorem IT.mono (h : IT K H a L M) (h1 : L ≤ L') (h2 : M ≤ M') : IT K H a L' M' := by obtain ⟨xs, e, l, m⟩ := h; exact ⟨xs, e, by omega, fun x hx => by have := m x hx; omega⟩
theorem IT.cut (h : IT K H a L M) (lo hi : Option Int) (q : ∀ (H' : Hp) (b : Addr), Same H H' → IT K H' b L M → Q (.ref b) H') : rSlA K (.ref a) lo hi H Q := by
  obtain ⟨xs, e, l, m⟩ := h
  obtain ⟨zs, ez, lz, mz⟩ := cut_ints xs lo hi
  exact sl_any e lo hi fun H' b s hb => q H' b s ⟨zs, by rw [← ez]; exact hb, by omega, fun z hz => m z (mz z hz)⟩
theorem IT.cat (h : IT K H a L M) (h' : IT K H b L' M) (hs : L + L' ≤ 1000000) (q : ∀ (H' : Hp) (p : Addr), Same H H' → IT K H' p (L + L') M → Q (.ref p) H') : rCatA K (.ref a) (.ref b) H Q := by
  obtain ⟨xs, e, l, m⟩ := h
  obtain ⟨ys, e', l', m'⟩ := h'
  refine cat_eq e e' (by rw [List.length_map, List.length_map]; exact small6 (by omega)) fun H' p s hp => q H' p s ⟨xs ++ ys, by rw [List.map_append]; exact hp, by rw [List.length_append]; omega, fun z hz => ?_⟩
  rcases List.mem_append.mp hz with h | h
  · exact m z h
  · exact m' z h
theorem IT.dq {st r : Addr} (h : IT K H a L M) : ∃ xs : List Int, Dq K st r H (.ref a) (dI xs) ∧ xs.length ≤ L ∧ ∀ x ∈ xs, x.natAbs ≤ M := by
  obtain ⟨xs, e, l, m⟩ := h
  exact ⟨xs, .of_dp (to_ints xs) (dI_sq e), l, m⟩
end
/-! a comprehension whose elements are new objects: R tells what they show -/
def LcR {α β : Type} (R : Hp → V → β → Prop) (H1 : Hp) (D : Addr) (zs : List α) (F : α → Option β) (i : Nat) (H : Hp) : Prop := Same H1 H ∧ ∃ vs, H D = some (.lst vs) ∧ Rl (R H) vs ((zs.take i).filterMap F)
section
variable {α β : Type} {R : Hp → V → β → Prop} {H1 H H' : Hp} {D : Addr} {zs : List α} {F : α → Option β} {i : Nat} {x : α} {y : V} {b : β}
theorem LcR.start (nD : H1 D = none) : LcR R H1 D zs F 0 (upd H1 D (.lst [])) := ⟨sameNew nD, [], upd_same, by simpa using Rl.nil⟩
theorem LcR.yes (hR : ∀ H H' v b, TupK H H' → R H v b → R H' v b) (h : LcR R H1 D zs F i H) (nD : H1 D = none) (s : Same H H') (hx : zs[i]? = some x) (hF : F x = some b) (hy : R H' y b) (hi : i ≤ 1000000) : ∃ acc, H' D = some (.lst acc) ∧ acc.length < sizeLine ∧ LcR R H1 D zs F (i + 1) (upd H' D (.lst (acc ++ [y]))) := by
  obtain ⟨s1, vs, e, hv⟩ := h
  have e' := s _ _ e
  refine ⟨vs, e', ?_, samePut (s1.trans s) nD, vs ++ [y], upd_same, ?_⟩
  · have h1 := List.length_filterMap_le F (zs.take i)
    have h2 := List.length_take_le i zs
    rw [hv.1]
    exact small (by omega)
  · have tk : TupK H' (upd H' D (.lst (vs ++ [y]))) := TupK.put e'
    rw [take_snoc hx, List.filterMap_append]
    simp only [List.filterMap_cons, hF, List.filterMap_nil]
    exact Rl.snoc (hv.mono fun v r h => hR _ _ _ _ ((TupK.of s).trans tk) h) (hR _ _ _ _ tk hy)
theorem LcR.no (hR : ∀ H H' v b, TupK H H' → R H v b → R H' v b) (h : LcR R H1 D zs F i H) (s : Same H H') (hx : zs[i]? = some x) (hF : F x = none) : LcR R H1 D zs F (i + 1) H' := by
  obtain ⟨s1, vs, e, hv⟩ := h
  refine ⟨s1.trans s, vs, s _ _ e, ?_⟩
  rw [take_snoc hx, List.filterMap_append]
  simp only [List.filterMap_cons, hF, List.filterMap_nil, List.append_nil]
  exact hv.mono fun v r h => hR _ _ _ _ (.of s) h
theorem LcR.done (h : LcR R H1 D zs F i H) (hi : zs.length ≤ i) : ∃ vs, H D = some (.lst vs) ∧ Rl (R H) vs (zs.filterMap F) := by
  obtain ⟨_, vs, e, hv⟩ := h
  rw [List.take_of_length_le hi] at hv
  exact ⟨vs, e, hv⟩
end
end Pv

namespace Pv
open PySem PySem.Spec PyProof.Rows L2 SX
abbrev sLaw : Stmt := topS 40
theorem scLaw : FnScope ["_law_script", "_law_deck_here", "_law_turn", "_law_instance_here", "_law_assignment_here", "_law_text_here", "_law_values", "_law_k", "_law_once", "_law_value", "_law_wish", "_law_count"] ["_law_script"] (defScope sLaw) := ⟨rfl, rfl, rfl, by decide +kernel, rfl, by decide +kernel, by decide +kernel⟩
theorem txs_last (l : List (List Nat)) : (txs l).dropLast = txs l.dropLast := by simp [txs, List.map_dropLast]
theorem rl_dp {K : PySem.W.Frag} {H : Hp} {α : Type} {f : α → PyData} : ∀ {vs : List V} {l : List α}, Rl (fun v g => Dp K H v (f g)) vs l → DpAll K H vs (l.map f)
  | [], [], _ => .nil
  | [], _ :: _, h => by have := h.1; simp at this
  | _ :: _, [], h => by have := h.1; simp at this
  | v :: vs, g :: l, h => .cons (h.2 0 v g rfl rfl) (rl_dp ⟨by have := h.1; simpa using this, fun j v' g' h1 h2 => h.2 (j + 1) v' g' (by simpa using h1) (by simpa using h2)⟩)
def rReprA (K : PySem.W.Frag) : RC := fun xs H Q => ∃ v d st r, xs = [v] ∧ Dq K st r H v d ∧ d.showable = true ∧ d.depth ≤ 60 ∧ d.shown.length ≤ sizeLine ∧ Q (.str d.shown) H
theorem call_reprR {X : Cx} (hg : X.A.guards = some []) (hu : X.A.units + 70 < cLine) : CallR X (.builtin "repr") (rReprA X.K) := call_reprA hg hu
section
variable {P : Program} {w : World} {K : PySem.W.Frag} {mg : Str → Option Value} {base : Heap}
def spLaw (K : PySem.W.Frag) : Sp := fun vs H Q _ => ∃ (a : Addr) (ns : List Int), vs = [.ref a] ∧ SqL K H a (ns.map V.int) ∧ ns.length ≤ 63 ∧ ∀ H', Q (.bl true) H'
set_option maxHeartbeats 8000000 in
theorem ok_Law {f fSt fDr fIn fAs fLr fOd fCh fMv fTo fDu fSm : Addr} {fd fdSt fdDr fdIn fdAs fdLr fdOd fdCh fdMv fdTo fdDu fdSm : FuncData} (F : Fun K "law" "law" sLaw f fd)
    (FSt : Fun K "_law_deck" "_law_deck" sStart fSt fdSt) (bSt : Binds K fdSt ["_law_script"] []) (gSt : mg "_law_deck" = some (.ref fSt)) (GSt : FnOk P w K mg base CX0 1 fSt fdSt ["_law_script"] (spStart K))
    (FDr : Fun K "_law_next" "_law_next" sDraw fDr fdDr) (bDr : Binds K fdDr ["_law_deck_here", "_law_many"] []) (gDr : mg "_law_next" = some (.ref fDr)) (GDr : FnOk P w K mg base CX0 1 fDr fdDr ["_law_deck_here", "_law_many"] spDraw)
    (FIn : Fun K "_law_instance" "_law_instance" sInst fIn fdIn) (bIn : Binds K fdIn ["_law_deck_here", "_law_posts", "_law_groups", "_law_far"] []) (gIn : mg "_law_instance" = some (.ref fIn)) (GIn : FnOk P w K mg base CX0 4 fIn fdIn ["_law_deck_here", "_law_posts", "_law_groups", "_law_far"] (spInst K))
    (FAs : Fun K "_law_assignment" "_law_assignment" sAs fAs fdAs) (bAs : Binds K fdAs ["_law_deck_here", "_law_instance_here"] []) (gAs : mg "_law_assignment" = some (.ref fAs)) (GAs : FnOk P w K mg base CX0 3 fAs fdAs ["_law_deck_here", "_law_instance_here"] (spAs K))
    (FLr : Fun K "_law_row_text" "_law_row_text" sLr fLr fdLr) (bLr : Binds K fdLr ["_law_assignment_here"] []) (gLr : mg "_law_row_text" = some (.ref fLr)) (GLr : FnOk P w K mg base CX0 1 fLr fdLr ["_law_assignment_here"] (spLr K))
    (FOd : Fun K "_law_odd" "_law_odd" sOdd fOd fdOd) (bOd : Binds K fdOd ["_law_deck_here"] []) (gOd : mg "_law_odd" = some (.ref fOd)) (GOd : FnOk P w K mg base CX0 2 fOd fdOd ["_law_deck_here"] (spOdd K))
    (FCh : Fun K "_law_changed" "_law_changed" sCh fCh fdCh) (bCh : Binds K fdCh ["_law_deck_here", "_law_text_here"] []) (gCh : mg "_law_changed" = some (.ref fCh)) (GCh : FnOk P w K mg base CX0 3 fCh fdCh ["_law_deck_here", "_law_text_here"] (spCh K))
    (FMv : Fun K "_law_moved" "_law_moved" sMv fMv fdMv) (bMv : Binds K fdMv ["_law_deck_here", "_law_assignment_here"] []) (gMv : mg "_law_moved" = some (.ref fMv)) (GMv : FnOk P w K mg base CX0 3 fMv fdMv ["_law_deck_here", "_law_assignment_here"] (spMv K))
    (FTo : Fun K "_law_told" "_law_told" sTo fTo fdTo) (bTo : Binds K fdTo ["_law_instance_here", "_law_value"] []) (gTo : mg "_law_told" = some (.ref fTo)) (GTo : FnOk P w K mg base CX0 8 fTo fdTo ["_law_instance_here", "_law_value"] (spTo K))
    (FDu : Fun K "_law_due" "_law_due" sDu fDu fdDu) (bDu : Binds K fdDu ["_law_instance_here", "_law_value"] []) (gDu : mg "_law_due" = some (.ref fDu)) (GDu : FnOk P w K mg base CX0 3 fDu fdDu ["_law_instance_here", "_law_value"] (spDu K))
    (FSm : Fun K "_law_same" "_law_same" sSame fSm fdSm) (bSm : Binds K fdSm ["_law_found", "_law_due_here"] []) (gSm : mg "_law_same" = some (.ref fSm)) (GSm : FnOk P w K mg base CX0 6 fSm fdSm ["_law_found", "_law_due_here"] (spS K 6))
    (m_range : mg "range" = none) (m_len : mg "len" = none) (m_tuple : mg "tuple" = none) (m_repr : mg "repr" = none) :
    FnG P w K mg base 9 f fd ["_law_script"] (spLaw K) := by
  refine okG F scLaw (fun vs H Q E h => ?_) (fun cdv A outer s H vs Q E hgd hr h => ?_)
  · obtain ⟨a, ns, rfl, _⟩ := h; rfl
  · obtain ⟨a, ns, rfl, hS, hn, q⟩ := h
    refine ⟨_, pss_cons (ps_set (i := 1) scLaw.nd rfl (.inl rfl) (pe_call GSt (hr.mono (by omega)) (by rfl) gSt FSt.kp bSt .nil pass0 (pa_cons (pv 0) pa_nil)))
      (pss_cons (ps_for PassesOwn.never rfl (pi_range1 (by rfl) m_range (pa_cons (pe_int) pa_nil)) (pg_name (i := 2) scLaw.nd rfl (.inl rfl))
        (pss_cons (ps_set (i := 3) scLaw.nd rfl (.inl rfl) (pe_call GIn (hr.mono (by omega)) (by rfl) gIn FIn.kp bIn .nil pass0 (pa_cons (pv 1) (pa_cons (pe_int) (pa_cons (pe_ix ix_list (pe_lst (pa_cons (pe_int) (pa_cons (pe_int) pa_nil))) (pe_call GDr (hr.mono (by omega)) (by rfl) gDr FDr.kp bDr .nil pass0 (pa_cons (pv 1) (pa_cons (pe_int) pa_nil))) (fun _ _ => rfl)) (pa_cons (pe_call GDr (hr.mono (by omega)) (by rfl) gDr FDr.kp bDr .nil pass0 (pa_cons (pv 1) (pa_cons (pe_int) pa_nil))) pa_nil))))))
        (pss_cons (ps_set (i := 4) scLaw.nd rfl (.inl rfl) (pe_call GAs (hr.mono (by omega)) (by rfl) gAs FAs.kp bAs .nil pass0 (pa_cons (pv 1) (pa_cons (pv 3) pa_nil))))
        (pss_cons (ps_set (i := 5) scLaw.nd rfl (.inl rfl) (pe_call GLr (hr.mono (by omega)) (by rfl) gLr FLr.kp bLr .nil pass0 (pa_cons (pv 4) pa_nil)))
        (pss_cons (ps_set (i := 6) scLaw.nd rfl (.inl rfl) (pe_lst (pa_cons (pv 5) (pa_cons (pe_op op_catS (pv 5) (pe_str)) (pa_cons (pe_op op_catS (pv 5) (pe_str)) (pa_cons (pe_m1 PySem.F.slot_str_join PySem.F.type_str_join mt_joinQ (pe_str) (pe_slice sl_list (pe_m1 PySem.F.slot_str_split PySem.F.type_str_split mt_splitQ (pv 5) (pe_str)) po_none (po_some (pe_un un_neg (pe_int))))) (pa_cons (pe_call GOd (hr.mono (by omega)) (by rfl) gOd FOd.kp bOd .nil pass0 (pa_cons (pv 1) pa_nil)) (pa_cons (pe_str) (pa_cons (pe_op op_catS (pv 5) (pe_str)) pa_nil)))))))))
        (pss_cons (ps_expr (pe_bm PySem.F.plainAttrs_list PySem.F.slot_list_append PySem.F.type_list_append mt_append (pv 6) (pa_cons (pe_call GLr (hr.mono (by omega)) (by rfl) gLr FLr.kp bLr .nil pass0 (pa_cons (pe_callTy call_tupQ (by rfl) m_tuple (by decide +kernel) (pa_cons (pe_lc (own := [("_law_wish", 10), ("_law_count", 11)]) (g := gTup K 2 (gCons (gName 10) (gCons (gName 11) gNil))) (tt := tYes) (te := tOp (rCatA K) (tTup (tCons (tVar 11) tNil)) (tOp (rRepA K) (tTup (tCons (tC (.int 0)) tNil)) (tCB (rLenQ K) (tCons (tVar 10) tNil)))) rfl scLaw.nd (pi_tup (pe_ix ix_tup (pv 3) (pe_int) (fun _ _ => rfl))) (blkOk_by (N := ["_law_script", "_law_deck_here", "_law_turn", "_law_instance_here", "_law_assignment_here", "_law_text_here", "_law_values", "_law_k", "_law_once", "_law_value", "_law_wish", "_law_count"]) (sc := defScope sLaw) (by decide +kernel)) (fun _ _ _ _ _ => pg_tup rfl (pgs_cons (pg_name (i := 10) scLaw.nd rfl (.inl rfl)) (pgs_cons (pg_name (i := 11) scLaw.nd rfl (.inl rfl)) pgs_nil))) (fun _ _ _ _ _ => pts_nil) (fun _ _ _ _ _ => pe_op op_catA (pe_tup (pa_cons (pv 11) pa_nil)) (pe_op op_repA (pe_tup (pa_cons (pe_int) pa_nil)) (pe_callB call_lenQ (by rfl) m_len PySem.boot_len (pa_cons (pv 10) pa_nil))))) pa_nil)) pa_nil)) pa_nil)))
        (pss_cons (ps_for PassesOwn.never rfl (pi_range1 (by rfl) m_range (pa_cons (pe_int) pa_nil)) (pg_name (i := 7) scLaw.nd rfl (.inl rfl))
          (pss_cons (ps_set (i := 8) scLaw.nd rfl (.inl rfl) (pe_call GCh (hr.mono (by omega)) (by rfl) gCh FCh.kp bCh .nil pass0 (pa_cons (pv 1) (pa_cons (pv 5) pa_nil))))
          (pss_cons (ps_expr (pe_bm PySem.F.plainAttrs_list PySem.F.slot_list_append PySem.F.type_list_append mt_append (pv 6) (pa_cons (pe_ix ix_list (pe_lst (pa_cons (pv 8) (pa_cons (pe_call GCh (hr.mono (by omega)) (by rfl) gCh FCh.kp bCh .nil pass0 (pa_cons (pv 1) (pa_cons (pv 8) pa_nil))) pa_nil))) (pe_call GDr (hr.mono (by omega)) (by rfl) gDr FDr.kp bDr .nil pass0 (pa_cons (pv 1) (pa_cons (pe_int) pa_nil))) (fun _ _ => rfl)) pa_nil)))
          (pss_one (ps_expr (pe_bm PySem.F.plainAttrs_list PySem.F.slot_list_append PySem.F.type_list_append mt_append (pv 6) (pa_cons (pe_call GLr (hr.mono (by omega)) (by rfl) gLr FLr.kp bLr .nil pass0 (pa_cons (pe_call GMv (hr.mono (by omega)) (by rfl) gMv FMv.kp bMv .nil pass0 (pa_cons (pv 1) (pa_cons (pv 4) pa_nil))) pa_nil)) pa_nil)))))))
        (pss_one (ps_for PassesOwn.never rfl (pi_list (pe_lc (own := [("_law_value", 9)]) (g := gName 9) (tt := tTest (tOp (rI0 fun i j => .bl (decide (i < j))) (tCB rLenS (tCons (tCB (rReprA K) (tCons (tVar 9) tNil)) tNil)) (tC (.int 1900)))) (te := tVar 9) rfl scLaw.nd (pi_list (pv 6)) (blkOk_by (N := ["_law_script", "_law_deck_here", "_law_turn", "_law_instance_here", "_law_assignment_here", "_law_text_here", "_law_values", "_law_k", "_law_once", "_law_value", "_law_wish", "_law_count"]) (sc := defScope sLaw) (by decide +kernel)) (fun _ _ _ _ _ => pg_name (i := 9) scLaw.nd rfl (.inl rfl)) (fun _ _ _ _ _ => pts_one (pt_cmpR op_lt (pe_callB call_lenS (by rfl) m_len PySem.boot_len (pa_cons (pe_callB (call_reprR hgd (hu70 hr)) (by rfl) m_repr (by decide +kernel) (pa_cons (pv 9) pa_nil)) pa_nil)) (pe_int) (nomark _))) (fun _ _ _ _ _ => pv 9))) (pg_name (i := 9) scLaw.nd rfl (.inl rfl))
          (pss_one (ps_if (pt_not (pt_val (pe_call GSm (hr.mono (by omega)) (by rfl) gSm FSm.kp bSm .nil pass0 (pa_cons (pe_call GTo (hr.mono (by omega)) (by rfl) gTo FTo.kp bTo .nil pass0 (pa_cons (pv 3) (pa_cons (pv 9) pa_nil))) (pa_cons (pe_call GDu (hr.mono (by omega)) (by rfl) gDu FDu.kp bDu .nil pass0 (pa_cons (pv 3) (pa_cons (pv 9) pa_nil))) pa_nil)))))
            (pss_one (ps_ret (pe_bl))) pss_nil)))))))))))
      (pss_one (ps_ret (pe_bl)))), ?_⟩
    have sz : (10 : Nat) * 90000 ≤ sizeLine := by decide
    have two : (2 : Nat) ≤ sizeLine := by decide
    refine ⟨.ref a, rfl, a, ns, rfl, hS, hn, fun H1 st c r s1 D1 => ?_⟩
    refine ⟨5, rfl, by decide, by decide, for_it (walk_range (lo := 0) (n := (5 : Int).toNat))
      (fun i σ H2 => ∃ (y2 y3 y4 y5 y6 y7 y8 y9 : Option V) (t2 : Nat), σ = [some (.ref a), some (.ref st), y2, y3, y4, y5, y6, y7, y8, y9, none, none] ∧ DS H2 st c r t2 ∧ t2 ≤ 3000 * i)
      ⟨none, none, none, none, none, none, none, none, 0, rfl, D1, by omega⟩ (fun _ _ _ _ _ => trivial) ?_ (fun σ H2 _ => q _)⟩
    rintro i v σ H2 H2' hlt ⟨y2, y3, y4, y5, y6, y7, y8, y9, t2, rfl, D2, ht2⟩ ⟨rfl, rfl⟩
    have hi6 : i < 5 := hlt
    refine ⟨.ref st, rfl, two, fun L0 nL0 => ?_⟩
    have eL0 : (upd H2' L0 (.lst [.int 3, .int 10])) L0 = some (.lst [.int 3, .int 10]) := upd_same
    have D3 := D2.new nL0 (o := .lst [.int 3, .int 10])
    have oL0 := D2.off nL0
    generalize upd H2' L0 (.lst [.int 3, .int 10]) = H3 at eL0 D3 ⊢
    refine ⟨.ref st, rfl, st, c, r, t2, 2, rfl, D3, by omega, by decide, by decide, fun H4 g0 h40 h41 D4 X4 => ?_⟩
    obtain ⟨gm, hgm, gm1, gm2⟩ : ∃ gm : Int, atI [V.int 3, V.int 10] g0 = some (.int gm) ∧ 1 ≤ gm ∧ gm ≤ 10 := by
      obtain h | h : g0 = 0 ∨ g0 = 1 := by omega
      · exact ⟨3, by rw [h]; rfl, by decide, by decide⟩
      · exact ⟨10, by rw [h]; rfl, by decide, by decide⟩
    refine ⟨L0, _, _, _, rfl, rfl, SqL.of (X4 _ _ eL0 oL0.1 oL0.2.2), hgm, .ref st, rfl, st, c, r, t2 + 1, 2, rfl, D4, by omega, by decide, by decide, fun H5 far h50 h51 D5 X5 => ?_⟩
    refine ⟨st, c, r, _, gm, far, rfl, D5, by omega, gm1, gm2, fun H6 I t6 cs gs D6 ht6 X6 hI ok hnd => ?_⟩
    refine ⟨.ref st, rfl, .ref I, rfl, st, c, r, I, t6, cs, gs, rfl, D6, by omega, hI, ok, fun H7 aa t7 rows D7 ht7 X7 hA isA => ?_⟩
    have hI7 := (X7.tup D6).dp _ _ (to_dInst _ _) hI
    obtain ⟨r1, r10, rb⟩ := rows_of ok isA
    have ro : RowsOk rows := ⟨r10, fun row hr' => ⟨(rb row hr').1, (rb row hr').2.1, fun x hx => by have := (rb row hr').2.2 x hx; omega⟩⟩
    have atOk : ∀ {rws : List (List Int)}, RowsOk rws → rws.length ≤ 20 ∧ ∀ r ∈ rws, r.length ≤ 20 ∧ ∀ n ∈ r, 0 ≤ n ∧ n < 10 ^ 29 := fun {rws} h => ⟨by have := h.1; omega, fun r hr' => ⟨by have := (h.2 r hr').2.1; omega, fun n hn => by have := (h.2 r hr').2.2 n hn; omega⟩⟩
    refine ⟨.ref aa, rfl, .ref aa, rows, rfl, hA, (atOk ro).1, (atOk ro).2, fun H8 s8 => ?_⟩
    have D8 := D7.same s8
    have hI8 := (TupK.of s8).dp _ _ (to_dInst _ _) hI7
    have hA8 := (TupK.of s8).dp _ _ (to_dAsg _) hA
    obtain ⟨T, hT⟩ : ∃ T, asgT rows = T := ⟨_, rfl⟩
    have lT : T.length ≤ 1000 := hT ▸ asgT_1000 ro
    have bT : RB dg 13 T := hT ▸ asgT_dg ro
    have cT : ∀ c ∈ T, c ≠ 10 ∧ c < 128 := hT ▸ asgT_cs
    have cT' : ∀ c ∈ T, c < 128 := fun c hc => (cT c hc).2
    have nT10 : 10 ∉ T := fun h => (cT 10 h).1 rfl
    have gT : GS T := ⟨by omega, bT.mono (by decide), cT'⟩
    rw [show TL.joinL [32] (rows.map rowT) = T from hT]
    have hT6 : (S T).length + 2 ≤ sizeLine := by rw [S_len]; omega
    have hcat : ∀ b : List Nat, b.length ≤ 10 → (S T).length + (S b).length ≤ sizeLine := fun b hb => by rw [S_len, S_len]; omega
    -- the first values
    refine ⟨.str (S T), rfl, .str (S T), rfl, _, S [32], rfl, rfl, hcat _ (by decide), ?_⟩
    rw [S_cat]
    refine ⟨.str (S T), rfl, _, S [32, 48], rfl, rfl, hcat _ (by decide), ?_⟩
    rw [S_cat]
    refine ⟨⟨_, rfl⟩, .str (S T), rfl, ⟨_, rfl⟩, _, _, rfl, rfl, rfl, hT6, fun p np => ?_⟩
    rw [show Str.ofString " " = S [32] from rfl, split_wds (by decide)]
    have D9 := D8.new np (o := .lst (txs (wds 32 T)))
    have s89 := sameNew (o := .lst (txs (wds 32 T))) np
    have ep : (upd H8 p (.lst (txs (wds 32 T)))) p = some (.lst (txs (wds 32 T))) := upd_same
    change tUn _ _ _ (upd H8 p (.lst (txs (wds 32 T)))) _
    generalize upd H8 p (.lst (txs (wds 32 T))) = H9 at D9 s89 ep ⊢
    refine ⟨1, rfl, -1, rfl, p, _, rfl, SqL.of ep, fun p2 np2 => ?_⟩
    rw [cut_last, txs_last]
    obtain ⟨W, hW⟩ : ∃ W, TL.joinL [32] (wds 32 T).dropLast = W := ⟨_, rfl⟩
    have wW : wt1 (wds 32 T).dropLast ≤ T.length + 1 := by
      have := wt1_take (wds 32 T) ((wds 32 T).length - 1)
      rw [← List.dropLast_eq_take, wt1_wds] at this
      exact this
    have gW : GS W := by
      rw [← hW]
      refine ⟨by have := join_wt 32 (wds 32 T).dropLast; omega, RB.join (by decide) fun w hw => (bT.word (List.dropLast_subset _ hw)).mono (by decide), fun c hc => ?_⟩
      rcases mem_join hc with e | ⟨w, hw, e⟩
      · omega
      · exact cT' c (wds_mem (List.dropLast_subset _ hw) e)
    have s9p := sameNew (o := .lst (txs (wds 32 T).dropLast)) np2
    have D10 := D9.new np2 (o := .lst (txs (wds 32 T).dropLast))
    refine ⟨S [32], p2, (wds 32 T).dropLast.map S, rfl, rfl, .inl (SqL.of upd_same), join_ok (by omega), ?_⟩
    rw [join_S, hW]
    generalize upd H9 p2 (.lst (txs (wds 32 T).dropLast)) = H10 at s9p D10 ⊢
    refine ⟨.ref st, rfl, st, c, r, t7, rfl, D10, by omega, fun H11 ov od D11 X11 hov fitov _ hos => ?_⟩
    refine ⟨.str (S T), rfl, _, S [10], rfl, rfl, hcat _ (by decide), ?_⟩
    rw [S_cat]
    refine ⟨(show (7 : Nat) ≤ sizeLine by decide), fun Vs nVs => ?_⟩
    have oVs := D11.off nVs
    obtain ⟨v0, hv0⟩ : ∃ v0, [V.str (S T), .str (S (T ++ [32])), .str (S (T ++ [32, 48])), .str (S W), ov, .str (S []), .str (S (T ++ [10]))] = v0 := ⟨_, rfl⟩
    have x811 : Ext st r H8 H11 := ((Ext.of s89).trans (Ext.of s9p)).trans X11
    have hI11 := (x811.tup D8).dp _ _ (to_dInst _ _) hI8
    have hA11 := (x811.tup D8).dp _ _ (to_dAsg _) hA8
    have gall : ∀ v ∈ v0, (∃ b, v = .str (S b) ∧ GS b) ∨ v = ov := by
      intro v hv
      rw [← hv0] at hv
      simp only [List.mem_cons, List.not_mem_nil, or_false] at hv
      rcases hv with rfl | rfl | rfl | rfl | rfl | rfl | rfl
      · exact .inl ⟨_, rfl, gT⟩
      · exact .inl ⟨_, rfl, gs_app lT bT cT' (by simp) (by decide) (by simp)⟩
      · exact .inl ⟨_, rfl, gs_app lT bT cT' (by simp) (by decide) (by simp)⟩
      · exact .inl ⟨_, rfl, gW⟩
      · exact .inr rfl
      · exact .inl ⟨[], rfl, ⟨by simp, RB.len (by simp), by simp⟩⟩
      · exact .inl ⟨_, rfl, gs_app lT bT cT' (by simp) (by decide) (by simp)⟩
    have lv0 : v0.length = 7 := by rw [← hv0]; rfl
    have good_od : Good od := fun b e => ⟨by have := hos b e; omega, RB.len (by have := hos b e; omega)⟩
    have show_od := fit_show (by decide) fitov (by decide) (by decide)
    change (gName 6 (V.ref Vs) _ (upd H11 Vs (.lst [V.str (S T), .str (S (T ++ [32])), .str (S (T ++ [32, 48])), .str (S W), ov, .str (S []), .str (S (T ++ [10]))])) _)
    rw [hv0]
    have eV12 : (upd H11 Vs (.lst v0)) Vs = some (.lst v0) := upd_same
    have D12 := D11.new nVs (o := .lst v0)
    have l12 : Lasts st r H11 (upd H11 Vs (.lst v0)) := Lasts.new nVs
    have hI12 := (TupK.of (sameNew (o := .lst v0) nVs)).dp _ _ (to_dInst _ _) hI11
    have hA12 := (TupK.of (sameNew (o := .lst v0) nVs)).dp _ _ (to_dAsg _) hA11
    generalize upd H11 Vs (.lst v0) = H12 at eV12 D12 l12 hI12 hA12 ⊢
    -- all at option 0
    obtain ⟨_, ca, ga, xs, ei, hi, hc, hgt, hgs⟩ := inst_open hI12
    cases ei
    have lxs : xs.length = gs.length := by have := DpAll.len hgs; rwa [List.length_map] at this
    refine ⟨.ref Vs, rfl, .inl ⟨rfl, _, SqL.of eV12⟩, .ref I, rfl, I, _, 1, .ref ga, rfl, rfl, hi, atI_nat (j := 1) rfl, ga, rfl, ⟨_, hgt⟩, fun D nD => lc_it (walk_tup (K := K) (a := ga) (xs := xs)) (LcR (fun H v g => Dp K H v (dI (g.2 :: zeros g.1.length))) H12 D gs (fun g => some g)) (.start nD) (fun j H4 _ h => sqS h.1 hgt) ?_ ?_⟩
    · rintro j x H4 H5 hj hL ⟨rfl, hx⟩
      have hx : xs[j]? = some x := hx
      obtain ⟨dg', hdg, hxd⟩ := DpAll.at hgs hx
      rw [List.getElem?_map] at hdg
      obtain ⟨g, hgj, rfl⟩ := Option.map_eq_some_iff.mp hdg
      obtain ⟨gA, pA, rfl, hG, hP⟩ := grp_ref hxd
      have gp := ok.gp g (List.mem_of_getElem? hgj)
      have hjl := (List.getElem?_eq_some_iff.mp hgj).1
      refine ⟨gA, _, rfl, sqS hL.1 hG, rfl, _, _, rfl, _, _, rfl, rfl, rfl, ?_⟩
      refine ⟨.int g.2, rfl, (show (1 : Nat) ≤ sizeLine by decide), fun A1 nA1 => ⟨(show (1 : Nat) ≤ sizeLine by decide), fun A2 nA2 => ?_⟩⟩
      have sA1 := sameNew (o := .tup [.int g.2]) nA1
      have sA2 := sameNew (o := .tup [.int 0]) nA2
      have hA1 : SqT K _ A1 [.int g.2] := (TupK.of sA2).sq (SqT.of (upd_same (a := A1) (o := .tup [.int g.2])))
      refine ⟨.ref pA, rfl, pA, _, rfl, .inr (sqS ((hL.1.trans sA1).trans sA2) hP), ?_⟩
      rw [List.length_map]
      refine repZ (SqT.of upd_same) (by omega) fun Hz pz sz' hz => ?_
      refine cat_eq ((TupK.of sz').sq hA1) hz (Nat.le_of_lt (small (by simp [zeros]; omega))) fun Hq pq sq hq => ?_
      exact hL.yes (fun H H' v b tk h => tk.dp _ _ (to_dI _) h) nD ((sA1.trans sA2).trans (sz'.trans sq)) hgj rfl (dI_sq (by simpa using hq)) (by have := ok.g10; omega)
    rintro H13 hL
    obtain ⟨vr, er, hvr⟩ := hL.done (by omega)
    rw [List.filterMap_some] at hvr
    have s1213 := hL.1
    refine ⟨D, _, rfl, .inl ⟨SqL.of er, fun Tr nTr => ?_⟩⟩
    obtain ⟨rows0, hrows0⟩ : ∃ rows0, gs.map (fun g : Gp => g.2 :: zeros g.1.length) = rows0 := ⟨_, rfl⟩
    have ro0 : RowsOk rows0 := by
      rw [← hrows0]
      refine ⟨by rw [List.length_map]; exact ok.g10, fun row hr' => ?_⟩
      obtain ⟨g, hg, rfl⟩ := List.mem_map.mp hr'
      have gp := ok.gp g hg
      refine ⟨by simp, by simp [zeros]; omega, fun x hx => ?_⟩
      rcases List.mem_cons.mp hx with rfl | hx
      · omega
      · have := (List.mem_replicate.mp hx).2; omega
    have s14 := sameNew (o := .tup vr) nTr
    have hT0 : Dp K (upd H13 Tr (.tup vr)) (.ref Tr) (dAsg rows0) := by
      refine .tup (SqT.of upd_same) ?_
      rw [← hrows0, List.map_map]
      exact rl_dp (hvr.mono fun v b h => (TupK.of s14).dp _ _ (to_dI _) h)
    have D14 := (D12.same s1213).same s14
    have l14 := l12.trans (.of (s1213.trans s14))
    have eV14 := s14 _ _ (s1213 _ _ eV12)
    have hI14 := (TupK.of (s1213.trans s14)).dp _ _ (to_dInst _ _) hI12
    have hA14 := (TupK.of (s1213.trans s14)).dp _ _ (to_dAsg _) hA12
    generalize upd H13 Tr (.tup vr) = H14 at hT0 D14 l14 eV14 hI14 hA14 ⊢
    refine ⟨.ref Tr, rows0, rfl, hT0, (atOk ro0).1, (atOk ro0).2, fun H15 s15 => ?_⟩
    have eV15 := s15 _ _ eV14
    have hI15 := (TupK.of s15).dp _ _ (to_dInst _ _) hI14
    have hA15 := (TupK.of s15).dp _ _ (to_dAsg _) hA14
    have D15 := D14.same s15
    have l15 := l14.trans (.of s15)
    refine ⟨Vs, _, _, rfl, rfl, eV15, small (by omega), ?_⟩
    rw [show TL.joinL [32] (rows0.map rowT) = asgT rows0 from rfl]
    have tkp : TupK H15 (upd H15 Vs (.lst (v0 ++ [.str (S (asgT rows0))]))) := TupK.put eV15
    refine ⟨7, rfl, by decide, by decide, for_it (walk_range (lo := 0) (n := (7 : Int).toNat))
      (fun j σ Hj => ∃ (y7 y8 : Option V) (tj : Nat) (vs : List V), σ = [some (.ref a), some (.ref st), some (.int (0 + (i : Nat))), some (.ref I), some (.ref aa), some (.str (S T)), some (.ref Vs), y7, y8, y9, none, none] ∧ DS Hj st c r tj ∧ tj ≤ t7 + 1 + 40 * j ∧ Hj Vs = some (.lst vs) ∧ vs.length = 8 + 2 * j ∧ Lasts st r H11 Hj ∧ TupK H15 Hj ∧ ∀ v ∈ vs, (∃ b, v = .str (S b) ∧ GS b) ∨ v = ov)
      ⟨_, _, _, _, rfl, D15.put oVs.1 oVs.2.1 oVs.2.2, by omega, upd_same, by rw [List.length_append]; simp only [List.length_cons, List.length_nil]; omega, lasts_put l15 nVs, tkp, fun v hv => (List.mem_append.mp hv).elim (gall v) (fun e => .inl ⟨asgT rows0, by simpa using e, gs_asg ro0⟩)⟩ (fun _ _ _ _ _ => trivial) ?_ ?_⟩
    · rintro j v σ Hk Hj hltj ⟨y7, y8, tj, vs, rfl, Dj, htj, eVj, lvs, lj, tkj, hgj⟩ ⟨rfl, rfl⟩
      have hj8 : j < 7 := hltj
      refine ⟨.ref st, rfl, .str (S T), rfl, st, c, r, tj, T, rfl, Dj, by omega, by omega, fun Ha b1 ta Da hta Xa chA => ?_⟩
      have lb1 : b1.length ≤ 2040 := by have := chA.one nT10; omega
      have cb1 : ∀ c ∈ b1, c < 128 := fun c hc => (chA.cs c hc).elim (cT' c) id
      have g1 : GS b1 := ⟨by omega, (chA.dg 13 bT).mono (by decide), cb1⟩
      have oa := Xa _ _ eVj oVs.1 oVs.2.2
      refine ⟨.ref Vs, rfl, .inl ⟨rfl, _, SqL.of oa⟩, .str (S b1), rfl, .ref st, rfl, .str (S b1), rfl, st, c, r, ta, b1, rfl, Da, by omega, by omega, fun Hb b2 tb Db htb Xb chB => ⟨two, fun Lp nLp => ?_⟩⟩
      have g2 : GS b2 := ⟨by have := chB.len; omega, (chB.dg _ (chA.dg 13 bT)).mono (by decide), fun c hc => (chB.cs c hc).elim (cb1 c) id⟩
      have eLp : (upd Hb Lp (.lst [.str (S b1), .str (S b2)])) Lp = some (.lst [.str (S b1), .str (S b2)]) := upd_same
      have oLp := Db.off nLp
      have Dc := Db.new nLp (o := .lst [.str (S b1), .str (S b2)])
      have xac : Ext st r Hj (upd Hb Lp (.lst [.str (S b1), .str (S b2)])) := (Xa.trans Xb).trans (Ext.of (sameNew nLp))
      have eVc : (upd Hb Lp (.lst [.str (S b1), .str (S b2)])) Vs = some (.lst vs) := xac _ _ eVj oVs.1 oVs.2.2
      generalize upd Hb Lp (.lst [.str (S b1), .str (S b2)]) = Hc at eLp Dc xac eVc ⊢
      refine ⟨.ref st, rfl, st, c, r, tb, 2, rfl, Dc, by omega, by decide, by decide, fun Hd z hz0 hz1 Dd Xd => ?_⟩
      have eVd := Xd _ _ eVc oVs.1 oVs.2.2
      have xad := xac.trans Xd
      obtain ⟨b, hb, gb⟩ : ∃ b, atI [V.str (S b1), V.str (S b2)] z = some (.str (S b)) ∧ GS b := by
        obtain h | h : z = 0 ∨ z = 1 := by omega
        · exact ⟨b1, by rw [h]; rfl, g1⟩
        · exact ⟨b2, by rw [h]; rfl, g2⟩
      refine ⟨Lp, _, _, _, rfl, rfl, SqL.of (Xd _ _ eLp oLp.1 oLp.2.2), hb, Vs, _, _, rfl, rfl, eVd, small (by omega), ?_⟩
      have ld := lasts_put (o := .lst (vs ++ [.str (S b)])) (lj.trans (Lasts.ext Dj xad)) nVs
      have De := Dd.put (o := .lst (vs ++ [.str (S b)])) oVs.1 oVs.2.1 oVs.2.2
      have tke := (tkj.trans (xad.tup Dj)).trans (TupK.put (o := .lst (vs ++ [.str (S b)])) eVd)
      have eVe : (upd Hd Vs (.lst (vs ++ [.str (S b)]))) Vs = some (.lst (vs ++ [.str (S b)])) := upd_same
      generalize upd Hd Vs (.lst (vs ++ [.str (S b)])) = He at ld De tke eVe ⊢
      have hAe := tke.dp _ _ (to_dAsg _) hA15
      refine ⟨.ref Vs, rfl, .inl ⟨rfl, _, SqL.of eVe⟩, .ref st, rfl, .ref aa, rfl, st, c, r, aa, tb + 1, rows, rfl, De, by omega, hAe, ⟨r1, r10⟩, rb, fun Hf pf tf rows2 Df htf Xf hR2 l2 hb2 => ?_⟩
      have ro2 : RowsOk rows2 := ⟨l2, hb2⟩
      refine ⟨.ref pf, rows2, rfl, hR2, (atOk ro2).1, (atOk ro2).2, fun Hg sg => ?_⟩
      have eVf := sg _ _ (Xf _ _ eVe oVs.1 oVs.2.2)
      refine ⟨Vs, _, _, rfl, rfl, eVf, small (by rw [List.length_append]; simp only [List.length_cons, List.length_nil]; omega), ?_⟩
      have lf := (ld.trans (Lasts.ext De Xf)).trans (.of sg)
      refine ⟨_, _, tf, (vs ++ [.str (S b)]) ++ [.str (S (asgT rows2))], rfl, (Df.same sg).put oVs.1 oVs.2.1 oVs.2.2, by omega, upd_same, by rw [List.length_append, List.length_append]; simp only [List.length_cons, List.length_nil]; omega, lasts_put lf nVs, ((tke.trans (Xf.tup De)).trans (TupK.of sg)).trans (TupK.put eVf), fun v hv => ?_⟩
      rcases List.mem_append.mp hv with e | e
      · rcases List.mem_append.mp e with f | f
        · exact hgj v f
        · exact .inl ⟨b, by simpa using f, gb⟩
      · exact .inl ⟨asgT rows2, by simpa using e, gs_asg ro2⟩
    · rintro σ Hj ⟨y7, y8, tj, vs, rfl, Dj, htj, eVj, lvs, lj, tkj, hgj⟩
      rw [show (7 : Int).toNat = 7 from rfl] at lvs htj
      have hIj := tkj.dp _ _ (to_dInst _ _) hI15
      have hvd : ∀ v ∈ vs, ∃ d, Dq K st r Hj v d ∧ Good d ∧ d.showable = true ∧ d.depth ≤ 60 ∧ d.shown.length ≤ sizeLine := fun v hv => by
        rcases hgj v hv with ⟨b, rfl, gb⟩ | rfl
        · exact ⟨_, .str _, gs_good gb, gs_show gb⟩
        · exact ⟨od, hov.lasts lj, good_od, show_od⟩
      refine ⟨.ref Vs, rfl, Vs, rfl, ⟨_, SqL.of eVj⟩, fun Fl nFl => lc_it (walk_list (K := K) (a := Vs) (xs := vs)) (fun k Hk => Same Hj Hk ∧ ∃ ws, Hk Fl = some (.lst ws) ∧ ws.length ≤ k ∧ ∀ v ∈ ws, v ∈ vs) ⟨sameNew nFl, [], upd_same, Nat.le_refl _, fun v h => by simp at h⟩ (fun k Hk _ h => SqL.of (h.1 _ _ eVj)) ?_ ?_⟩
      · rintro k v Hl Hk hltk ⟨sk, ws, ews, lws, hws⟩ ⟨rfl, hx⟩
        have hx : vs[k]? = some v := hx
        have hvm := List.mem_of_getElem? hx
        have hkl := (List.getElem?_eq_some_iff.mp hx).1
        obtain ⟨d, hq1, _, sh1, sh2, sh3⟩ := hvd v hvm
        refine ⟨rfl, v, rfl, v, d, st, r, rfl, hq1.lasts (.of sk), sh1, sh2, sh3, d.shown, rfl, sh3, _, _, rfl, rfl, _, rfl, ?_⟩
        refine ite2 (fun _ => ⟨v, rfl, ws, ews, small (by omega), samePut sk nFl, ws ++ [v], upd_same, by rw [List.length_append]; simp only [List.length_cons, List.length_nil]; omega, fun u hu => ?_⟩) (fun _ => ⟨sk, ws, ews, by omega, hws⟩)
        rcases List.mem_append.mp hu with e | e
        · exact hws u e
        · rw [show u = v by simpa using e]; exact hvm
      · rintro Hk ⟨sk, ws, ews, lws, hws⟩
        refine ⟨Fl, rfl, ⟨_, SqL.of ews⟩, for_it (walk_list (K := K) (a := Fl) (xs := ws))
          (fun k σ Hl => ∃ (y9 : Option V), σ = [some (.ref a), some (.ref st), some (.int (0 + (i : Nat))), some (.ref I), some (.ref aa), some (.str (S T)), some (.ref Vs), y7, y8, y9, none, none] ∧ Same Hk Hl)
          ⟨_, rfl, Same.refl _⟩ (fun k σ Hl _ h => by obtain ⟨_, _, s⟩ := h; exact SqL.of (s _ _ ews)) ?_ ?_⟩
        · rintro k v σ Hm Hl hltk ⟨y9, rfl, sl⟩ ⟨rfl, hx⟩
          have hx : ws[k]? = some v := hx
          obtain ⟨d, hqd, gd, _⟩ := hvd v (hws v (List.mem_of_getElem? hx))
          have dp := due_plain ok d
          have hIl := (TupK.of (sk.trans sl)).dp _ _ (to_dInst _ _) hIj
          refine ⟨.ref I, rfl, v, rfl, st, r, I, v, cs, gs, d, rfl, hIl, ok, hqd.lasts (.of (sk.trans sl)), gd, fun H1 p1 s1 h1 => ?_⟩
          refine ⟨.ref I, rfl, v, rfl, st, r, I, v, cs, gs, d, rfl, (TupK.of s1).dp _ _ (to_dInst _ _) hIl, ok, hqd.lasts (.of ((sk.trans sl).trans s1)), gd, fun H2 p2 s2 h2 => ?_⟩
          exact ⟨.ref p1, .ref p2, _, rfl, same_dp s2 dp.1 h1, h2, dp.1, dp.2, fun H3 s3 => ⟨_, rfl, iteF ⟨_, rfl, ((sl.trans s1).trans s2).trans s3⟩⟩⟩
        · rintro σ Hl ⟨y9, rfl, sl⟩
          exact ⟨_, _, _, _, _, _, _, _, tj, rfl, Dj.same (sk.trans sl), by omega⟩
end
end Pv

namespace Pv
open PySem PySem.Spec PyProof.Rows L2
abbrev siBT : Stmt := inCls (topS 13) 0
theorem sciBT : FnScope ["self", "index"] ["self", "index"] (defScope siBT) := ⟨rfl, rfl, rfl, by decide +kernel, rfl, by decide +kernel, by decide +kernel⟩
theorem ok_iBT {P : Program} {w : World} {K : PySem.W.Frag} {mg : Str → Option Value} {base : Heap} {f C : Addr} {fd : FuncData} (F : Fun K "__init__" "BadText.__init__" siBT f fd) (X : XF K C f "index") : FnOk P w K mg base CX0 1 f fd ["self", "index"] (spI1 C "index") := by
  refine F.ok sciBT (fun vs H Q E h => ?_) (fun cdv A outer s H vs Q E hr h => ?_)
  · obtain ⟨a, v, rfl, _⟩ := h; rfl
  · obtain ⟨a, v, rfl, hH, q⟩ := h
    refine ⟨_, pss_one (ps_ost (pv 0) (pv 1)), ?_⟩
    exact ⟨v, rfl, .ref a, rfl, a, C, rfl, X.T, X.no, .inl ⟨hH, fun dx nd ne => q dx nd ne⟩⟩
end Pv

namespace Pv
open PySem PySem.Spec PyProof.Rows L2
/-! what the top has left -/
set_option maxHeartbeats 8000000 in
theorem all_mk {l : PySem.W.OpenLaw} {w : World} {K : PySem.W.Frag} {h : Heap} {mg : Str → Option Value} {fa fWh fWi fTo1 fSp fIA fLo fPn fPs fPa fIs fSt fDr fOn fSm fMx fAm fIn fAs fOd fLr fNu fCh fRo fDu fTo fMv fLaw : Addr} (X : K.In h) (G : h.Ns mainGlobals mg) (hfa : mg "law" = some (.ref fa))
    {odWh anWh odWi anWi odTo1 anTo1 odSp anSp odIA anIA odLo anLo odPn anPn odPs anPs odPa anPa odIs anIs odSt anSt odDr anDr odOn anOn odSm anSm odMx anMx odAm anAm odIn anIn odAs anAs odOd anOd odLr anLr odNu anNu odCh anCh odRo anRo odDu anDu odTo anTo odMv anMv odLaw anLaw : Option Addr} {slWh slWi slTo1 slSp slIA slLo slPn slPs slPa slIs slSt slDr slOn slSm slMx slAm slIn slAs slOd slLr slNu slCh slRo slDu slTo slMv slLaw : Array (Option Value)}
    {ocWh kVWh dcWh pmWh cdWh ctWh ocWi kVWi dcWi pmWi cdWi ctWi ocTo1 kVTo1 dcTo1 pmTo1 cdTo1 ctTo1 ocSp kVSp dcSp pmSp cdSp ctSp ocIA kVIA dcIA pmIA cdIA ctIA ocLo kVLo dcLo pmLo cdLo ctLo ocPn kVPn dcPn pmPn cdPn ctPn ocPs kVPs dcPs pmPs cdPs ctPs ocPa kVPa dcPa pmPa cdPa ctPa ocIs kVIs dcIs pmIs cdIs ctIs ocSt kVSt dcSt pmSt cdSt ctSt ocDr kVDr dcDr pmDr cdDr ctDr ocOn kVOn dcOn pmOn cdOn ctOn ocSm kVSm dcSm pmSm cdSm ctSm ocMx kVMx dcMx pmMx cdMx ctMx ocAm kVAm dcAm pmAm cdAm ctAm ocIn kVIn dcIn pmIn cdIn ctIn ocAs kVAs dcAs pmAs cdAs ctAs ocOd kVOd dcOd pmOd cdOd ctOd ocLr kVLr dcLr pmLr cdLr ctLr ocNu kVNu dcNu pmNu cdNu ctNu ocCh kVCh dcCh pmCh cdCh ctCh ocRo kVRo dcRo pmRo cdRo ctRo ocDu kVDu dcDu pmDu cdDu ctDu ocTo kVTo dcTo pmTo cdTo ctTo ocMv kVMv dcMv pmMv cdMv ctMv ocLaw kVLaw dcLaw pmLaw cdLaw ctLaw : Value}
    (aWh : PySem.W.nsIn K mainGlobals "is_whole" = some (some (.ref fWh))) (lWh : K.lookup fWh = some ⟨ocWh, odWh, .func (PySem.W.fnOf "is_whole" "is_whole" (defArgs sWhole) (defBody sWhole) (defScope sWhole) .none kVWh dcWh pmWh anWh cdWh ctWh), slWh⟩)
      (cWh : PySem.W.codeIn K cdWh "is_whole" = true) (kWh : PySem.W.keepIn K (.ref fWh) = true)
    (aWi : PySem.W.nsIn K mainGlobals "is_within" = some (some (.ref fWi))) (lWi : K.lookup fWi = some ⟨ocWi, odWi, .func (PySem.W.fnOf "is_within" "is_within" (defArgs sWithin) (defBody sWithin) (defScope sWithin) .none kVWi dcWi pmWi anWi cdWi ctWi), slWi⟩)
      (cWi : PySem.W.codeIn K cdWi "is_within" = true) (kWi : PySem.W.keepIn K (.ref fWi) = true)
    (aTo1 : PySem.W.nsIn K mainGlobals "is_tuple_of" = some (some (.ref fTo1))) (lTo1 : K.lookup fTo1 = some ⟨ocTo1, odTo1, .func (PySem.W.fnOf "is_tuple_of" "is_tuple_of" (defArgs sTupOf) (defBody sTupOf) (defScope sTupOf) .none kVTo1 dcTo1 pmTo1 anTo1 cdTo1 ctTo1), slTo1⟩)
      (cTo1 : PySem.W.codeIn K cdTo1 "is_tuple_of" = true) (kTo1 : PySem.W.keepIn K (.ref fTo1) = true)
    (aSp : PySem.W.nsIn K mainGlobals "is_split" = some (some (.ref fSp))) (lSp : K.lookup fSp = some ⟨ocSp, odSp, .func (PySem.W.fnOf "is_split" "is_split" (defArgs sSp) (defBody sSp) (defScope sSp) .none kVSp dcSp pmSp anSp cdSp ctSp), slSp⟩)
      (cSp : PySem.W.codeIn K cdSp "is_split" = true) (kSp : PySem.W.keepIn K (.ref fSp) = true)
    (aIA : PySem.W.nsIn K mainGlobals "is_assignment" = some (some (.ref fIA))) (lIA : K.lookup fIA = some ⟨ocIA, odIA, .func (PySem.W.fnOf "is_assignment" "is_assignment" (defArgs sIA) (defBody sIA) (defScope sIA) .none kVIA dcIA pmIA anIA cdIA ctIA), slIA⟩)
      (cIA : PySem.W.codeIn K cdIA "is_assignment" = true) (kIA : PySem.W.keepIn K (.ref fIA) = true)
    (aLo : PySem.W.nsIn K mainGlobals "post_loads" = some (some (.ref fLo))) (lLo : K.lookup fLo = some ⟨ocLo, odLo, .func (PySem.W.fnOf "post_loads" "post_loads" (defArgs sLoads) (defBody sLoads) (defScope sLoads) .none kVLo dcLo pmLo anLo cdLo ctLo), slLo⟩)
      (cLo : PySem.W.codeIn K cdLo "post_loads" = true) (kLo : PySem.W.keepIn K (.ref fLo) = true)
    (aPn : PySem.W.nsIn K mainGlobals "parse_number" = some (some (.ref fPn))) (lPn : K.lookup fPn = some ⟨ocPn, odPn, .func (PySem.W.fnOf "parse_number" "parse_number" (defArgs sPn) (defBody sPn) (defScope sPn) .none kVPn dcPn pmPn anPn cdPn ctPn), slPn⟩)
      (cPn : PySem.W.codeIn K cdPn "parse_number" = true) (kPn : PySem.W.keepIn K (.ref fPn) = true)
    (aPs : PySem.W.nsIn K mainGlobals "parse_numbers" = some (some (.ref fPs))) (lPs : K.lookup fPs = some ⟨ocPs, odPs, .func (PySem.W.fnOf "parse_numbers" "parse_numbers" (defArgs sPs) (defBody sPs) (defScope sPs) .none kVPs dcPs pmPs anPs cdPs ctPs), slPs⟩)
      (cPs : PySem.W.codeIn K cdPs "parse_numbers" = true) (kPs : PySem.W.keepIn K (.ref fPs) = true)
    (aPa : PySem.W.nsIn K mainGlobals "parse_assignment" = some (some (.ref fPa))) (lPa : K.lookup fPa = some ⟨ocPa, odPa, .func (PySem.W.fnOf "parse_assignment" "parse_assignment" (defArgs sPa) (defBody sPa) (defScope sPa) .none kVPa dcPa pmPa anPa cdPa ctPa), slPa⟩)
      (cPa : PySem.W.codeIn K cdPa "parse_assignment" = true) (kPa : PySem.W.keepIn K (.ref fPa) = true)
    (aIs : PySem.W.nsIn K mainGlobals "is_share" = some (some (.ref fIs))) (lIs : K.lookup fIs = some ⟨ocIs, odIs, .func (PySem.W.fnOf "is_share" "is_share" (defArgs sIs) (defBody sIs) (defScope sIs) .none kVIs dcIs pmIs anIs cdIs ctIs), slIs⟩)
      (cIs : PySem.W.codeIn K cdIs "is_share" = true) (kIs : PySem.W.keepIn K (.ref fIs) = true)
    (aSt : PySem.W.nsIn K mainGlobals "_law_deck" = some (some (.ref fSt))) (lSt : K.lookup fSt = some ⟨ocSt, odSt, .func (PySem.W.fnOf "_law_deck" "_law_deck" (defArgs sStart) (defBody sStart) (defScope sStart) .none kVSt dcSt pmSt anSt cdSt ctSt), slSt⟩)
      (cSt : PySem.W.codeIn K cdSt "_law_deck" = true) (kSt : PySem.W.keepIn K (.ref fSt) = true)
    (aDr : PySem.W.nsIn K mainGlobals "_law_next" = some (some (.ref fDr))) (lDr : K.lookup fDr = some ⟨ocDr, odDr, .func (PySem.W.fnOf "_law_next" "_law_next" (defArgs sDraw) (defBody sDraw) (defScope sDraw) .none kVDr dcDr pmDr anDr cdDr ctDr), slDr⟩)
      (cDr : PySem.W.codeIn K cdDr "_law_next" = true) (kDr : PySem.W.keepIn K (.ref fDr) = true)
    (aOn : PySem.W.nsIn K mainGlobals "_law_one" = some (some (.ref fOn))) (lOn : K.lookup fOn = some ⟨ocOn, odOn, .func (PySem.W.fnOf "_law_one" "_law_one" (defArgs sOne) (defBody sOne) (defScope sOne) .none kVOn dcOn pmOn anOn cdOn ctOn), slOn⟩)
      (cOn : PySem.W.codeIn K cdOn "_law_one" = true) (kOn : PySem.W.keepIn K (.ref fOn) = true)
    (aSm : PySem.W.nsIn K mainGlobals "_law_same" = some (some (.ref fSm))) (lSm : K.lookup fSm = some ⟨ocSm, odSm, .func (PySem.W.fnOf "_law_same" "_law_same" (defArgs sSame) (defBody sSame) (defScope sSame) .none kVSm dcSm pmSm anSm cdSm ctSm), slSm⟩)
      (cSm : PySem.W.codeIn K cdSm "_law_same" = true) (kSm : PySem.W.keepIn K (.ref fSm) = true)
    (aMx : PySem.W.nsIn K mainGlobals "_law_mixed" = some (some (.ref fMx))) (lMx : K.lookup fMx = some ⟨ocMx, odMx, .func (PySem.W.fnOf "_law_mixed" "_law_mixed" (defArgs sMix) (defBody sMix) (defScope sMix) .none kVMx dcMx pmMx anMx cdMx ctMx), slMx⟩)
      (cMx : PySem.W.codeIn K cdMx "_law_mixed" = true) (kMx : PySem.W.keepIn K (.ref fMx) = true)
    (aAm : PySem.W.nsIn K mainGlobals "_law_amount" = some (some (.ref fAm))) (lAm : K.lookup fAm = some ⟨ocAm, odAm, .func (PySem.W.fnOf "_law_amount" "_law_amount" (defArgs sAmo) (defBody sAmo) (defScope sAmo) .none kVAm dcAm pmAm anAm cdAm ctAm), slAm⟩)
      (cAm : PySem.W.codeIn K cdAm "_law_amount" = true) (kAm : PySem.W.keepIn K (.ref fAm) = true)
    (aIn : PySem.W.nsIn K mainGlobals "_law_instance" = some (some (.ref fIn))) (lIn : K.lookup fIn = some ⟨ocIn, odIn, .func (PySem.W.fnOf "_law_instance" "_law_instance" (defArgs sInst) (defBody sInst) (defScope sInst) .none kVIn dcIn pmIn anIn cdIn ctIn), slIn⟩)
      (cIn : PySem.W.codeIn K cdIn "_law_instance" = true) (kIn : PySem.W.keepIn K (.ref fIn) = true)
    (aAs : PySem.W.nsIn K mainGlobals "_law_assignment" = some (some (.ref fAs))) (lAs : K.lookup fAs = some ⟨ocAs, odAs, .func (PySem.W.fnOf "_law_assignment" "_law_assignment" (defArgs sAs) (defBody sAs) (defScope sAs) .none kVAs dcAs pmAs anAs cdAs ctAs), slAs⟩)
      (cAs : PySem.W.codeIn K cdAs "_law_assignment" = true) (kAs : PySem.W.keepIn K (.ref fAs) = true)
    (aOd : PySem.W.nsIn K mainGlobals "_law_odd" = some (some (.ref fOd))) (lOd : K.lookup fOd = some ⟨ocOd, odOd, .func (PySem.W.fnOf "_law_odd" "_law_odd" (defArgs sOdd) (defBody sOdd) (defScope sOdd) .none kVOd dcOd pmOd anOd cdOd ctOd), slOd⟩)
      (cOd : PySem.W.codeIn K cdOd "_law_odd" = true) (kOd : PySem.W.keepIn K (.ref fOd) = true)
    (aLr : PySem.W.nsIn K mainGlobals "_law_row_text" = some (some (.ref fLr))) (lLr : K.lookup fLr = some ⟨ocLr, odLr, .func (PySem.W.fnOf "_law_row_text" "_law_row_text" (defArgs sLr) (defBody sLr) (defScope sLr) .none kVLr dcLr pmLr anLr cdLr ctLr), slLr⟩)
      (cLr : PySem.W.codeIn K cdLr "_law_row_text" = true) (kLr : PySem.W.keepIn K (.ref fLr) = true)
    (aNu : PySem.W.nsIn K mainGlobals "_law_number" = some (some (.ref fNu))) (lNu : K.lookup fNu = some ⟨ocNu, odNu, .func (PySem.W.fnOf "_law_number" "_law_number" (defArgs sNu) (defBody sNu) (defScope sNu) .none kVNu dcNu pmNu anNu cdNu ctNu), slNu⟩)
      (cNu : PySem.W.codeIn K cdNu "_law_number" = true) (kNu : PySem.W.keepIn K (.ref fNu) = true)
    (aCh : PySem.W.nsIn K mainGlobals "_law_changed" = some (some (.ref fCh))) (lCh : K.lookup fCh = some ⟨ocCh, odCh, .func (PySem.W.fnOf "_law_changed" "_law_changed" (defArgs sCh) (defBody sCh) (defScope sCh) .none kVCh dcCh pmCh anCh cdCh ctCh), slCh⟩)
      (cCh : PySem.W.codeIn K cdCh "_law_changed" = true) (kCh : PySem.W.keepIn K (.ref fCh) = true)
    (aRo : PySem.W.nsIn K mainGlobals "_law_row" = some (some (.ref fRo))) (lRo : K.lookup fRo = some ⟨ocRo, odRo, .func (PySem.W.fnOf "_law_row" "_law_row" (defArgs sRo) (defBody sRo) (defScope sRo) .none kVRo dcRo pmRo anRo cdRo ctRo), slRo⟩)
      (cRo : PySem.W.codeIn K cdRo "_law_row" = true) (kRo : PySem.W.keepIn K (.ref fRo) = true)
    (aDu : PySem.W.nsIn K mainGlobals "_law_due" = some (some (.ref fDu))) (lDu : K.lookup fDu = some ⟨ocDu, odDu, .func (PySem.W.fnOf "_law_due" "_law_due" (defArgs sDu) (defBody sDu) (defScope sDu) .none kVDu dcDu pmDu anDu cdDu ctDu), slDu⟩)
      (cDu : PySem.W.codeIn K cdDu "_law_due" = true) (kDu : PySem.W.keepIn K (.ref fDu) = true)
    (aTo : PySem.W.nsIn K mainGlobals "_law_told" = some (some (.ref fTo))) (lTo : K.lookup fTo = some ⟨ocTo, odTo, .func (PySem.W.fnOf "_law_told" "_law_told" (defArgs sTo) (defBody sTo) (defScope sTo) .none kVTo dcTo pmTo anTo cdTo ctTo), slTo⟩)
      (cTo : PySem.W.codeIn K cdTo "_law_told" = true) (kTo : PySem.W.keepIn K (.ref fTo) = true)
    (aMv : PySem.W.nsIn K mainGlobals "_law_moved" = some (some (.ref fMv))) (lMv : K.lookup fMv = some ⟨ocMv, odMv, .func (PySem.W.fnOf "_law_moved" "_law_moved" (defArgs sMv) (defBody sMv) (defScope sMv) .none kVMv dcMv pmMv anMv cdMv ctMv), slMv⟩)
      (cMv : PySem.W.codeIn K cdMv "_law_moved" = true) (kMv : PySem.W.keepIn K (.ref fMv) = true)
    (aLaw : PySem.W.nsIn K mainGlobals "law" = some (some (.ref fLaw))) (lLaw : K.lookup fLaw = some ⟨ocLaw, odLaw, .func (PySem.W.fnOf "law" "law" (defArgs sLaw) (defBody sLaw) (defScope sLaw) .none kVLaw dcLaw pmLaw anLaw cdLaw ctLaw), slLaw⟩)
      (cLaw : PySem.W.codeIn K cdLaw "law" = true) (kLaw : PySem.W.keepIn K (.ref fLaw) = true)
    (z0 : PySem.W.nsIn K mainGlobals "isinstance" = some none)
    (z1 : PySem.W.nsIn K mainGlobals "int" = some none)
    (z2 : PySem.W.nsIn K mainGlobals "bool" = some none)
    (z3 : PySem.W.nsIn K mainGlobals "str" = some none)
    (z4 : PySem.W.nsIn K mainGlobals "tuple" = some none)
    (z5 : PySem.W.nsIn K mainGlobals "list" = some none)
    (z6 : PySem.W.nsIn K mainGlobals "len" = some none)
    (z7 : PySem.W.nsIn K mainGlobals "abs" = some none)
    (z8 : PySem.W.nsIn K mainGlobals "min" = some none)
    (z9 : PySem.W.nsIn K mainGlobals "max" = some none)
    (z10 : PySem.W.nsIn K mainGlobals "range" = some none)
    (z11 : PySem.W.nsIn K mainGlobals "zip" = some none)
    (z12 : PySem.W.nsIn K mainGlobals "all" = some none)
    (z13 : PySem.W.nsIn K mainGlobals "enumerate" = some none)
    (z14 : PySem.W.nsIn K mainGlobals "sum" = some none)
    (z15 : PySem.W.nsIn K mainGlobals "repr" = some none)
    {uLONGEST : Value} (y0 : PySem.W.nsIn K mainGlobals "LONGEST" = some (some uLONGEST)) (rLONGEST : RelV (.int 30) uLONGEST)
    {cBT : Addr} (aCBT : PySem.W.nsIn K mainGlobals "BadText" = some (some (.ref cBT))) (iCBT : isCB K cBT = true)
    {cVE : Addr} (aCVE : PySem.W.nsIn K mainGlobals "VoteError" = some (some (.ref cVE))) (iCVE : isCB K cVE = true)
    {cBI : Addr} (aCBI : PySem.W.nsIn K mainGlobals "BadInstance" = some (some (.ref cBI))) (iCBI : isCB K cBI = true)
    {cBN : Addr} (aCBN : PySem.W.nsIn K mainGlobals "BadNumber" = some (some (.ref cBN))) (iCBN : isCB K cBN = true)
    {cNC : Addr} (aCNC : PySem.W.nsIn K mainGlobals "NoChange" = some (some (.ref cNC))) (iCNC : isCB K cNC = true)
    {nmBT qnBT : Str} {NBT fiBT : Addr} {bsBT bmBT subBT : List Value} {snBT : List Str} {abBT : Bool} {colBT : Option Bool} {ddBT odiBT aniBT : Option Addr} {kaBT kbBT kcBT kdBT keBT : Option Value} {sliBT : Array (Option Value)} {ociBT kViBT dciBT pmiBT cdiBT ctiBT : Value}
    (lXBT : K.lookup cBT = some (excClassObj nmBT qnBT cBT NBT bsBT bmBT true snBT subBT abBT colBT ddBT kaBT kbBT kcBT kdBT keBT "ValueError.__new__")) (vXBT : PySem.HandSPX.refsVE bmBT = true)
    (nXBT : PySem.W.findIn K (.ref cBT) "__init__" = some (some (.ref fiBT))) (lIBT : K.lookup fiBT = some ⟨ociBT, odiBT, .func (PySem.W.fnOf "__init__" "BadText.__init__" (defArgs siBT) (defBody siBT) (defScope siBT) .none kViBT dciBT pmiBT aniBT cdiBT ctiBT), sliBT⟩) (cIBT : PySem.W.codeIn K cdiBT "BadText.__init__" = true) (kIBT : PySem.W.keepIn K (.ref fiBT) = true) (bXBT : xf1B K cBT fiBT "index" = true)
    (x1 : PySem.W.exmOne K (.ref cBT) (.ref cVE) = some true)
    (x2 : PySem.W.kitOne K (.ref cBT) (.ref cBT) = some true)
    (x3 : PySem.W.kitAny K (.ref cBT) [.ref cBI, .ref cBN, .ref cNC] = some false)
    : ∃ fd : FuncData, (∀ (s : Shared) (v : Value), BindsTo s fd ⟨[v], []⟩ [("_law_script", v)]) ∧ ∀ base : Heap, K.In base → base.Ns mainGlobals mg → FnG l.prog w K mg base 9 fa fd ["_law_script"] (spLaw K) := by
  have e := hfa.symm.trans (PySem.W.mg_of X G aLaw)
  cases e
  have FWh := fun_mk (st := sWhole) lWh cWh kWh
  have bWh := FWh.binds (ps := ["value"]) fun _ _ _ _ _ _ us hl => match us, hl with | [_], _ => rfl
  have gWh := PySem.W.mg_of X G aWh
  have FWi := fun_mk (st := sWithin) lWi cWi kWi
  have bWi := FWi.binds (ps := ["value", "least", "most"]) fun _ _ _ _ _ _ us hl => match us, hl with | [_, _, _], _ => rfl
  have gWi := PySem.W.mg_of X G aWi
  have FTo1 := fun_mk (st := sTupOf) lTo1 cTo1 kTo1
  have bTo1 := FTo1.binds (ps := ["value", "least", "most"]) fun _ _ _ _ _ _ us hl => match us, hl with | [_, _, _], _ => rfl
  have gTo1 := PySem.W.mg_of X G aTo1
  have FSp := fun_mk (st := sSp) lSp cSp kSp
  have bSp := FSp.binds (ps := ["value", "size", "total"]) fun _ _ _ _ _ _ us hl => match us, hl with | [_, _, _], _ => rfl
  have gSp := PySem.W.mg_of X G aSp
  have FIA := fun_mk (st := sIA) lIA cIA kIA
  have bIA := FIA.binds (ps := ["instance", "value"]) fun _ _ _ _ _ _ us hl => match us, hl with | [_, _], _ => rfl
  have gIA := PySem.W.mg_of X G aIA
  have FLo := fun_mk (st := sLoads) lLo cLo kLo
  have bLo := FLo.binds (ps := ["instance", "assignment"]) fun _ _ _ _ _ _ us hl => match us, hl with | [_, _], _ => rfl
  have gLo := PySem.W.mg_of X G aLo
  have FPn := fun_mk (st := sPn) lPn cPn kPn
  have bPn := FPn.binds (ps := ["text", "digits"]) fun _ _ _ _ _ _ us hl => match us, hl with | [_, _], _ => rfl
  have gPn := PySem.W.mg_of X G aPn
  have FPs := fun_mk (st := sPs) lPs cPs kPs
  have bPs := FPs.binds (ps := ["words"]) fun _ _ _ _ _ _ us hl => match us, hl with | [_], _ => rfl
  have gPs := PySem.W.mg_of X G aPs
  have FPa := fun_mk (st := sPa) lPa cPa kPa
  have bPa := FPa.binds (ps := ["instance", "text"]) fun _ _ _ _ _ _ us hl => match us, hl with | [_, _], _ => rfl
  have gPa := PySem.W.mg_of X G aPa
  have FIs := fun_mk (st := sIs) lIs cIs kIs
  have bIs := FIs.binds (ps := ["instance", "group", "share"]) fun _ _ _ _ _ _ us hl => match us, hl with | [_, _, _], _ => rfl
  have gIs := PySem.W.mg_of X G aIs
  have FSt := fun_mk (st := sStart) lSt cSt kSt
  have bSt := FSt.binds (ps := ["_law_script"]) fun _ _ _ _ _ _ us hl => match us, hl with | [_], _ => rfl
  have gSt := PySem.W.mg_of X G aSt
  have FDr := fun_mk (st := sDraw) lDr cDr kDr
  have bDr := FDr.binds (ps := ["_law_deck_here", "_law_many"]) fun _ _ _ _ _ _ us hl => match us, hl with | [_, _], _ => rfl
  have gDr := PySem.W.mg_of X G aDr
  have FOn := fun_mk (st := sOne) lOn cOn kOn
  have bOn := FOn.binds (ps := ["_law_deck_here", "_law_items"]) fun _ _ _ _ _ _ us hl => match us, hl with | [_, _], _ => rfl
  have gOn := PySem.W.mg_of X G aOn
  have FSm := fun_mk (st := sSame) lSm cSm kSm
  have bSm := FSm.binds (ps := ["_law_found", "_law_due_here"]) fun _ _ _ _ _ _ us hl => match us, hl with | [_, _], _ => rfl
  have gSm := PySem.W.mg_of X G aSm
  have FMx := fun_mk (st := sMix) lMx cMx kMx
  have bMx := FMx.binds (ps := ["_law_deck_here", "_law_items"]) fun _ _ _ _ _ _ us hl => match us, hl with | [_, _], _ => rfl
  have gMx := PySem.W.mg_of X G aMx
  have FAm := fun_mk (st := sAmo) lAm cAm kAm
  have bAm := FAm.binds (ps := ["_law_deck_here", "_law_far"]) fun _ _ _ _ _ _ us hl => match us, hl with | [_, _], _ => rfl
  have gAm := PySem.W.mg_of X G aAm
  have FIn := fun_mk (st := sInst) lIn cIn kIn
  have bIn := FIn.binds (ps := ["_law_deck_here", "_law_posts", "_law_groups", "_law_far"]) fun _ _ _ _ _ _ us hl => match us, hl with | [_, _, _, _], _ => rfl
  have gIn := PySem.W.mg_of X G aIn
  have FAs := fun_mk (st := sAs) lAs cAs kAs
  have bAs := FAs.binds (ps := ["_law_deck_here", "_law_instance_here"]) fun _ _ _ _ _ _ us hl => match us, hl with | [_, _], _ => rfl
  have gAs := PySem.W.mg_of X G aAs
  have FOd := fun_mk (st := sOdd) lOd cOd kOd
  have bOd := FOd.binds (ps := ["_law_deck_here"]) fun _ _ _ _ _ _ us hl => match us, hl with | [_], _ => rfl
  have gOd := PySem.W.mg_of X G aOd
  have FLr := fun_mk (st := sLr) lLr cLr kLr
  have bLr := FLr.binds (ps := ["_law_assignment_here"]) fun _ _ _ _ _ _ us hl => match us, hl with | [_], _ => rfl
  have gLr := PySem.W.mg_of X G aLr
  have FNu := fun_mk (st := sNu) lNu cNu kNu
  have bNu := FNu.binds (ps := ["_law_word"]) fun _ _ _ _ _ _ us hl => match us, hl with | [_], _ => rfl
  have gNu := PySem.W.mg_of X G aNu
  have FCh := fun_mk (st := sCh) lCh cCh kCh
  have bCh := FCh.binds (ps := ["_law_deck_here", "_law_text_here"]) fun _ _ _ _ _ _ us hl => match us, hl with | [_, _], _ => rfl
  have gCh := PySem.W.mg_of X G aCh
  have FRo := fun_mk (st := sRo) lRo cRo kRo
  have bRo := FRo.binds (ps := ["_law_wish", "_law_count", "_law_word"]) fun _ _ _ _ _ _ us hl => match us, hl with | [_, _, _], _ => rfl
  have gRo := PySem.W.mg_of X G aRo
  have FDu := fun_mk (st := sDu) lDu cDu kDu
  have bDu := FDu.binds (ps := ["_law_instance_here", "_law_value"]) fun _ _ _ _ _ _ us hl => match us, hl with | [_, _], _ => rfl
  have gDu := PySem.W.mg_of X G aDu
  have FTo := fun_mk (st := sTo) lTo cTo kTo
  have bTo := FTo.binds (ps := ["_law_instance_here", "_law_value"]) fun _ _ _ _ _ _ us hl => match us, hl with | [_, _], _ => rfl
  have gTo := PySem.W.mg_of X G aTo
  have FMv := fun_mk (st := sMv) lMv cMv kMv
  have bMv := FMv.binds (ps := ["_law_deck_here", "_law_assignment_here"]) fun _ _ _ _ _ _ us hl => match us, hl with | [_, _], _ => rfl
  have gMv := PySem.W.mg_of X G aMv
  have FLaw := fun_mk (st := sLaw) lLaw cLaw kLaw
  have m_isinstance := PySem.W.mg_none_of X G z0
  have m_int := PySem.W.mg_none_of X G z1
  have m_bool := PySem.W.mg_none_of X G z2
  have m_str := PySem.W.mg_none_of X G z3
  have m_tuple := PySem.W.mg_none_of X G z4
  have m_list := PySem.W.mg_none_of X G z5
  have m_len := PySem.W.mg_none_of X G z6
  have m_abs := PySem.W.mg_none_of X G z7
  have m_min := PySem.W.mg_none_of X G z8
  have m_max := PySem.W.mg_none_of X G z9
  have m_range := PySem.W.mg_none_of X G z10
  have m_zip := PySem.W.mg_none_of X G z11
  have m_all := PySem.W.mg_none_of X G z12
  have m_enumerate := PySem.W.mg_none_of X G z13
  have m_sum := PySem.W.mg_none_of X G z14
  have m_repr := PySem.W.mg_none_of X G z15
  have vLONGEST := PySem.W.mg_of X G y0
  have gBT := PySem.W.mg_of X G aCBT
  have IBT := isCB_ok iCBT
  have gVE := PySem.W.mg_of X G aCVE
  have IVE := isCB_ok iCVE
  have gBI := PySem.W.mg_of X G aCBI
  have IBI := isCB_ok iCBI
  have gBN := PySem.W.mg_of X G aCBN
  have IBN := isCB_ok iCBN
  have gNC := PySem.W.mg_of X G aCNC
  have INC := isCB_ok iCNC
  have XBT := xf1B_ok bXBT ⟨_, _, _, _, _, _, _, _, _, _, _, _, _, _, _, lXBT, vXBT⟩
  have FiBT := fun_mk (st := siBT) lIBT cIBT kIBT
  have biBT := FiBT.binds (ps := ["self", "index"]) fun _ _ _ _ _ _ us hl => match us, hl with | [_, _], _ => rfl
  refine ⟨PySem.W.fnOf "law" "law" (defArgs sLaw) (defBody sLaw) (defScope sLaw) .none kVLaw dcLaw pmLaw anLaw cdLaw ctLaw, fun s v => .of_eq rfl, fun base _ _ => ?_⟩
  have GiBT := ok_iBT (P := l.prog) (w := w) (base := base) (mg := mg) FiBT XBT
  have GWh := ok_whole (P := l.prog) (w := w) (base := base) (mg := mg) (k := 0) FWh m_isinstance m_int m_bool
  have GWi := ok_within (P := l.prog) (w := w) (base := base) (mg := mg) (k := 0) FWi FWh bWh gWh GWh
  have GTo1 := ok_tupOf (P := l.prog) (w := w) (base := base) (mg := mg) (k := 0) FTo1 m_isinstance m_tuple m_len
  have GSp := ok_Sp (P := l.prog) (w := w) (base := base) (mg := mg) FSp FTo1 bTo1 gTo1 GTo1 FWi bWi gWi GWi m_all m_sum
  have GLo := ok_loads (P := l.prog) (w := w) (base := base) (mg := mg) (k := 0) FLo m_len m_zip m_tuple
  have GIA := ok_IA (P := l.prog) (w := w) (base := base) (mg := mg) FIA FTo1 bTo1 gTo1 GTo1 FSp bSp gSp GSp FLo bLo gLo GLo m_len m_zip m_all
  have GPn := ok_Pn (P := l.prog) (w := w) (base := base) (mg := mg) FPn     m_len m_int
  have GPs := ok_Ps (P := l.prog) (w := w) (base := base) (mg := mg) FPs  FPn bPn gPn GPn  vLONGEST rLONGEST m_tuple
  have GIs := ok_Is (P := l.prog) (w := w) (base := base) (mg := mg) FIs  FSp bSp gSp GSp   m_len
  have GPa := ok_Pa (P := l.prog) (w := w) (base := base) (mg := mg) FPa  FPs bPs gPs GPs FIs bIs gIs GIs FIA bIA gIA GIA gBT XBT GiBT biBT  m_str m_isinstance m_enumerate m_len m_tuple
  have GLr := ok_Lr (P := l.prog) (w := w) (base := base) (mg := mg) FLr     m_str
  have GSt := ok_start (P := l.prog) (w := w) (base := base) (mg := mg) (k := 0) FSt m_abs m_int m_len
  have GDr := ok_draw (P := l.prog) (w := w) (base := base) (mg := mg) (k := 0) FDr m_len
  have GOn := ok_one (P := l.prog) (w := w) (base := base) (mg := mg) (k := 0) FOn FDr bDr gDr GDr m_len
  have GMi := ok_mix (P := l.prog) (w := w) (base := base) (mg := mg) (k := 0) FMx FDr bDr gDr GDr m_list m_len
  have GMx := ok_mixN (P := l.prog) (w := w) (base := base) (mg := mg) (k := 0) FMx FDr bDr gDr GDr m_list m_len
  have GAm := ok_amo (P := l.prog) (w := w) (base := base) (mg := mg) (k := 0) FAm FDr bDr gDr GDr FOn bOn gOn GOn
  have GIn := ok_inst (P := l.prog) (w := w) (base := base) (mg := mg) (k := 0) FIn FDr bDr gDr GDr FOn bOn gOn GOn FMx bMx gMx GMi FAm bAm gAm GAm m_tuple m_range m_list m_sum m_max m_min
  have GSm := ok_same (P := l.prog) (w := w) (base := base) (mg := mg) FSm bSm gSm m_isinstance m_list m_tuple m_len m_range m_str m_int m_bool 6
  have GOd := ok_odd (P := l.prog) (w := w) (base := base) (mg := mg) (k := 0) FOd FDr bDr gDr GDr
  have GAs := ok_As (P := l.prog) (w := w) (base := base) (mg := mg) FAs  FMx bMx gMx GMx FDr bDr gDr GDr FOn bOn gOn GOn   m_list m_len m_range m_min m_tuple
  have GNu := ok_Nu (P := l.prog) (w := w) (base := base) (mg := mg) FNu     m_int
  have GRo := ok_Ro (P := l.prog) (w := w) (base := base) (mg := mg) FRo  FNu bNu gNu GNu   m_len m_sum m_tuple
  have GDu := ok_Du (P := l.prog) (w := w) (base := base) (mg := mg) FDu  FRo bRo gRo GRo   m_str m_isinstance m_enumerate m_len m_zip m_tuple
  have GMv := ok_Mv (P := l.prog) (w := w) (base := base) (mg := mg) FMv  FDr bDr gDr GDr   m_len m_list m_tuple
  have GCh := ok_Ch (P := l.prog) (w := w) (base := base) (mg := mg) FCh  FDr bDr gDr GDr FOn bOn gOn GOn   m_len m_int
  have GTo := ok_To (P := l.prog) (w := w) (base := base) (mg := mg) FTo FPa bPa gPa GPa gBT gVE gBI gBN gNC IBT XBT x1 x2 x3 m_isinstance
  exact ok_Law (P := l.prog) (w := w) (base := base) FLaw  FSt bSt gSt GSt FDr bDr gDr GDr FIn bIn gIn GIn FAs bAs gAs GAs FLr bLr gLr GLr FOd bOd gOd GOd FCh bCh gCh GCh FMv bMv gMv GMv FTo bTo gTo GTo FDu bDu gDu GDu FSm bSm gSm GSm   m_range m_len m_tuple m_repr
end Pv

open PySem PySem.W PyProof.Rows
set_option maxRecDepth 100000 in
set_option maxHeartbeats 0 in
theorem PySem.Challenge.cw_postvote_k73_other_texts_of_assignments_holds : PySem.Challenge.rw_postvote_k73_other_texts_of_assignments.Holds := by
  w_on; o_law; k_head; (case hw => w_witness2)
  k_fill
  refine Pv.walkG (l := PySem.Challenge.rw_postvote_k73_other_texts_of_assignments) (n := 63) (k := 9) (x := "_law_script") (sp := fun w => Pv.spLaw _) rfl (by decide) rfl ⟨rfl, by decide, by decide⟩ (fun w h Y => PySem.W.kIn_of Y) ?F (fun _ _ a ns hl _ _ hS => ⟨a, ns, rfl, hS, hl, fun _ => rfl⟩)
  case F =>
    intro w mg fa h KX G hmg
    refine' Pv.all_mk KX G hmg ?aWh ?lWh ?cWh ?kWh ?aWi ?lWi ?cWi ?kWi ?aTo1 ?lTo1 ?cTo1 ?kTo1 ?aSp ?lSp ?cSp ?kSp ?aIA ?lIA ?cIA ?kIA ?aLo ?lLo ?cLo ?kLo ?aPn ?lPn ?cPn ?kPn ?aPs ?lPs ?cPs ?kPs ?aPa ?lPa ?cPa ?kPa ?aIs ?lIs ?cIs ?kIs ?aSt ?lSt ?cSt ?kSt ?aDr ?lDr ?cDr ?kDr ?aOn ?lOn ?cOn ?kOn ?aSm ?lSm ?cSm ?kSm ?aMx ?lMx ?cMx ?kMx ?aAm ?lAm ?cAm ?kAm ?aIn ?lIn ?cIn ?kIn ?aAs ?lAs ?cAs ?kAs ?aOd ?lOd ?cOd ?kOd ?aLr ?lLr ?cLr ?kLr ?aNu ?lNu ?cNu ?kNu ?aCh ?lCh ?cCh ?kCh ?aRo ?lRo ?cRo ?kRo ?aDu ?lDu ?cDu ?kDu ?aTo ?lTo ?cTo ?kTo ?aMv ?lMv ?cMv ?kMv ?aLaw ?lLaw ?cLaw ?kLaw ?z0 ?z1 ?z2 ?z3 ?z4 ?z5 ?z6 ?z7 ?z8 ?z9 ?z10 ?z11 ?z12 ?z13 ?z14 ?z15 ?y0 ?rLONGEST ?aCBT ?iCBT ?aCVE ?iCVE ?aCBI ?iCBI ?aCBN ?iCBN ?aCNC ?iCNC ?lXBT ?vXBT ?nXBT ?lIBT ?cIBT ?kIBT ?bXBT ?x1 ?x2 ?x3
    (case aWh => k_is); (case lWh => k_is); (case cWh => k_is); (case kWh => k_is); (case aWi => k_is); (case lWi => k_is); (case cWi => k_is); (case kWi => k_is); (case aTo1 => k_is); (case lTo1 => k_is); (case cTo1 => k_is); (case kTo1 => k_is); (case aSp => k_is); (case lSp => k_is); (case cSp => k_is); (case kSp => k_is); (case aIA => k_is); (case lIA => k_is); (case cIA => k_is); (case kIA => k_is); (case aLo => k_is); (case lLo => k_is); (case cLo => k_is); (case kLo => k_is); (case aPn => k_is); (case lPn => k_is); (case cPn => k_is); (case kPn => k_is); (case aPs => k_is); (case lPs => k_is); (case cPs => k_is); (case kPs => k_is); (case aPa => k_is); (case lPa => k_is); (case cPa => k_is); (case kPa => k_is); (case aIs => k_is); (case lIs => k_is); (case cIs => k_is); (case kIs => k_is); (case aSt => k_is); (case lSt => k_is); (case cSt => k_is); (case kSt => k_is); (case aDr => k_is); (case lDr => k_is); (case cDr => k_is); (case kDr => k_is); (case aOn => k_is); (case lOn => k_is); (case cOn => k_is); (case kOn => k_is); (case aSm => k_is); (case lSm => k_is); (case cSm => k_is); (case kSm => k_is); (case aMx => k_is); (case lMx => k_is); (case cMx => k_is); (case kMx => k_is); (case aAm => k_is); (case lAm => k_is); (case cAm => k_is); (case kAm => k_is); (case aIn => k_is); (case lIn => k_is); (case cIn => k_is); (case kIn => k_is); (case aAs => k_is); (case lAs => k_is); (case cAs => k_is); (case kAs => k_is); (case aOd => k_is); (case lOd => k_is); (case cOd => k_is); (case kOd => k_is); (case aLr => k_is); (case lLr => k_is); (case cLr => k_is); (case kLr => k_is); (case aNu => k_is); (case lNu => k_is); (case cNu => k_is); (case kNu => k_is); (case aCh => k_is); (case lCh => k_is); (case cCh => k_is); (case kCh => k_is); (case aRo => k_is); (case lRo => k_is); (case cRo => k_is); (case kRo => k_is); (case aDu => k_is); (case lDu => k_is); (case cDu => k_is); (case kDu => k_is); (case aTo => k_is); (case lTo => k_is); (case cTo => k_is); (case kTo => k_is); (case aMv => k_is); (case lMv => k_is); (case cMv => k_is); (case kMv => k_is); (case aLaw => k_is); (case lLaw => k_is); (case cLaw => k_is); (case kLaw => k_is); (case z0 => k_is); (case z1 => k_is); (case z2 => k_is); (case z3 => k_is); (case z4 => k_is); (case z5 => k_is); (case z6 => k_is); (case z7 => k_is); (case z8 => k_is); (case z9 => k_is); (case z10 => k_is); (case z11 => k_is); (case z12 => k_is); (case z13 => k_is); (case z14 => k_is); (case z15 => k_is); (case aCBT => k_is); (case iCBT => kernel_rfl); (case aCVE => k_is); (case iCVE => kernel_rfl); (case aCBI => k_is); (case iCBI => kernel_rfl); (case aCBN => k_is); (case iCBN => kernel_rfl); (case aCNC => k_is); (case iCNC => kernel_rfl); (case y0 => k_is); (case lXBT => k_is); (case vXBT => kernel_rfl); (case nXBT => k_is); (case lIBT => k_is); (case cIBT => k_is); (case kIBT => k_is); (case bXBT => kernel_rfl); (case x1 => kernel_rfl); (case x2 => kernel_rfl); (case x3 => kernel_rfl); (case rLONGEST => exact ⟨_, rfl⟩)

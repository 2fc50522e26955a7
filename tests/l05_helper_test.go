package tests

import (
	"fmt"
	"math/rand/v2"
	"slices"
	"strings"
	"testing"

	"loop.example/g03221/impl"
)

// The functions below say again, in the plainest way, what the document says of terminologies.

func wantTerminology(y impl.Terminology) bool {
	if !wantRules(y.Rules) || len(y.Entries) > 60 {
		return false
	}
	for i, e := range y.Entries {
		if !wantName(e.Term) || !wantType(e.Type) || !isSameType(wantForm(y.Rules, e.Type), e.Type) {
			return false
		}
		if slices.ContainsFunc(y.Entries[:i], func(other impl.Entry) bool { return isSameType(other.Type, e.Type) }) {
			return false
		}
	}
	return true
}

// wantForm is asked for rules and types that are valid.
func wantForm(rules []impl.Rule, k impl.KinType) impl.KinType {
	for {
		u, j, _ := wantFirst(rules, k)
		if j == -1 {
			return k
		}
		k = u
	}
}

// wantTerm is asked for terminologies and types that are valid. It returns the empty text if there is no term.
func wantTerm(y impl.Terminology, k impl.KinType) string {
	form := wantForm(y.Rules, k)
	for _, e := range y.Entries {
		if slices.Equal(e.Type.Steps, form.Steps) && (e.Type.Ego == 0 || e.Type.Ego == wantEgo(form)) {
			return e.Term
		}
	}
	return ""
}

func wantTermFor(y impl.Terminology, k impl.KinType) (string, bool) {
	if !wantTerminology(y) || !wantType(k) {
		return "", false
	}
	term := wantTerm(y, k)
	return term, term != ""
}

func wantTerminologyText(y impl.Terminology) string {
	if !wantTerminology(y) {
		return ""
	}
	return looseText(y)
}

// looseText also writes terminologies that are not valid, but for rules and types that are not.
func looseText(y impl.Terminology) string {
	var text strings.Builder
	for _, r := range y.Rules {
		fmt.Fprintln(&text, "rule", wantRuleText(r))
	}
	for _, e := range y.Entries {
		fmt.Fprintln(&text, "term", wantTypeText(e.Type), e.Term)
	}
	return text.String()
}

func isListed(n int) bool { return n >= 1 && n <= 3 }

func wantTermTable(y impl.Terminology, ego int, n int) []impl.Entry {
	list := []impl.Entry{}
	if !wantTerminology(y) || ego != 1 && ego != 2 || !isListed(n) {
		return list
	}
	for _, k := range wantTypesFrom(ego, n) {
		if term := wantTerm(y, k); term != "" {
			list = append(list, impl.Entry{Type: k, Term: term})
		}
	}
	return list
}

func wantTypesCalled(y impl.Terminology, ego int, n int, term string) []impl.KinType {
	list := []impl.KinType{}
	for _, e := range wantTermTable(y, ego, n) {
		if e.Term == term {
			list = append(list, e.Type)
		}
	}
	return list
}

// wantLeads says whether steps with AnyAge lead from a to b.
func wantLeads(tables []table, steps []impl.Step, a int, b int) bool {
	if len(steps) == 0 {
		return a == b
	}
	for c, is := range tables[steps[0].Kind-1][a] {
		if is && wantLeads(tables, steps[1:], c, b) {
			return true
		}
	}
	return false
}

// wantTermsTo returns the terms between a and each person.
func wantTermsTo(f impl.Family, y impl.Terminology, a int, n int) [][]string {
	terms := make([][]string, len(f.People))
	tables := kindTables(f)
	for _, e := range wantTermTable(y, f.People[a].Sex, n) {
		for b := range f.People {
			if wantLeads(tables, e.Type.Steps, a, b) && !slices.Contains(terms[b], e.Term) {
				terms[b] = append(terms[b], e.Term)
			}
		}
	}
	return terms
}

// wantAddress returns the terms of the shortest types from a to each person, or the empty text.
func wantAddress(f impl.Family, y impl.Terminology, a int) []string {
	terms := make([]string, len(f.People))
	for b, text := range wantShortest(f, kindTables(f), a) {
		if text == "." {
			text = []string{"", "m:.", "w:."}[f.People[a].Sex]
		}
		if text != "" && wantTerminology(y) {
			terms[b] = wantTerm(y, looseType(text))
		}
	}
	return terms
}

// termsOf returns the terms of types.
func termsOf(y impl.Terminology, types []impl.KinType) []string {
	list := []string{}
	for _, k := range types {
		list = append(list, wantTerm(y, k))
	}
	return list
}

func wantReciprocal(y impl.Terminology, n int) bool {
	if !wantTerminology(y) || !isListed(n) {
		return false
	}
	for ego := 1; ego <= 2; ego++ {
		types, backs := wantTypesFrom(ego, n), []impl.KinType{}
		for _, k := range types {
			back, _ := wantReverse(k)
			backs = append(backs, back)
		}
		terms, backTerms := termsOf(y, types), termsOf(y, backs)
		for i := range types {
			for j := range types {
				alike := terms[i] != "" && terms[i] == terms[j] && wantSex(types[i]) == wantSex(types[j])
				if alike && backTerms[i] != backTerms[j] {
					return false
				}
			}
		}
	}
	return true
}

func wantSameDivision(y impl.Terminology, z impl.Terminology, n int) bool {
	if !wantTerminology(y) || !wantTerminology(z) || !isListed(n) {
		return false
	}
	for ego := 1; ego <= 2; ego++ {
		types := wantTypesFrom(ego, n)
		inY, inZ := termsOf(y, types), termsOf(z, types)
		for i := range types {
			for j := range types {
				if (inY[i] == inY[j]) != (inZ[i] == inZ[j]) {
					return false
				}
			}
		}
	}
	return true
}

// solves is asked for rules and types that are valid.
func solves(rules []impl.Rule, same []impl.TypePair, apart []impl.TypePair) bool {
	alike := func(p impl.TypePair) bool { return isSameType(wantForm(rules, p.A), wantForm(rules, p.B)) }
	for _, p := range same {
		if !alike(p) {
			return false
		}
	}
	return !slices.ContainsFunc(apart, alike)
}

// selected returns the numbers of the bits of a mask, and the rules with these indices.
func selected(catalog []impl.Rule, mask int) ([]int, []impl.Rule) {
	list, rules := []int{}, []impl.Rule{}
	for i, r := range catalog {
		if mask>>i&1 == 1 {
			list, rules = append(list, i), append(rules, r)
		}
	}
	return list, rules
}

// wantFound tries all selections of rules, and keeps the best one.
func wantFound(catalog []impl.Rule, same []impl.TypePair, apart []impl.TypePair) ([]int, bool) {
	if !wantRules(catalog) || len(catalog) > 8 || len(same)+len(apart) > 40 {
		return nil, false
	}
	for _, p := range slices.Concat(same, apart) {
		if !wantType(p.A) || !wantType(p.B) {
			return nil, false
		}
	}
	var best []int
	found := false
	for mask := range 1 << len(catalog) {
		list, rules := selected(catalog, mask)
		if (!found || comesBefore(list, best)) && solves(rules, same, apart) {
			best, found = list, true
		}
	}
	return best, found
}

func comesBefore(a []int, b []int) bool {
	if len(a) != len(b) {
		return len(a) < len(b)
	}
	return slices.Compare(a, b) < 0
}

// Terminologies that are written, made by chance, and made wrong.

// terminology reads lines that are separated by semicolons.
func terminology(t *testing.T, lines string) impl.Terminology {
	t.Helper()
	text := ""
	for _, line := range strings.Split(lines, "; ") {
		if line != "" {
			text += line + "\n"
		}
	}
	y, ok := impl.ParseTerminology(text)
	if !ok {
		t.Fatalf("ParseTerminology refuses %q", text)
	}
	return y
}

func sampleNames() []string { return []string{"generation", "merging", "skewing"} }

func isSameTerminology(y impl.Terminology, z impl.Terminology) bool {
	sameEntry := func(e, g impl.Entry) bool { return e.Term == g.Term && isSameType(e.Type, g.Type) }
	return slices.EqualFunc(y.Rules, z.Rules, isSameRule) && slices.EqualFunc(y.Entries, z.Entries, sameEntry)
}

func isZeroTerminology(y impl.Terminology) bool { return isSameTerminology(y, impl.Terminology{}) }

// withoutAges returns a type with AnyAge in each step: only such types are listed.
func withoutAges(k impl.KinType) impl.KinType {
	plain := impl.KinType{Ego: k.Ego}
	for _, s := range k.Steps {
		plain.Steps = append(plain.Steps, impl.Step{Kind: s.Kind})
	}
	return plain
}

// chanceTerminology has many entries with the same steps, and several types with the same term.
func chanceTerminology(r *rand.Rand) impl.Terminology {
	y := impl.Terminology{Rules: impl.SampleRules([]string{"", "generation", "merging", "skewing"}[r.IntN(4)])}
	if r.IntN(2) == 0 {
		y.Rules = chanceRules(r)
	}
	terms := []string{"a", "b", "kin", "cousin", "abcdefghijkl"}[:1+r.IntN(5)]
	for range r.IntN(50) {
		k := chanceType(r, min(r.IntN(4), r.IntN(4)))
		if r.IntN(3) > 0 {
			k = withoutAges(k)
		}
		addEntry(&y, impl.Entry{Type: wantForm(y.Rules, k), Term: terms[r.IntN(len(terms))]})
	}
	return y
}

func addEntry(y *impl.Terminology, e impl.Entry) {
	alone := impl.Terminology{Rules: y.Rules, Entries: []impl.Entry{e}}
	known := slices.ContainsFunc(y.Entries, func(other impl.Entry) bool { return isSameType(other.Type, e.Type) })
	if wantTerminology(alone) && !known {
		y.Entries = append(y.Entries, e)
	}
}

// someTerminologies has the samples, some that are written, and some by chance.
func someTerminologies(t *testing.T, r *rand.Rand, n int) []impl.Terminology {
	t.Helper()
	list := []impl.Terminology{
		{}, terminology(t, "term . self; term w:. her; term m:. him"),
		terminology(t, "rule a: HW -> .; rule b: WH -> .; term w:. self; term H a; term m:W b; term W c"),
		terminology(t, "rule a: S -> F; rule b: D -> M; rule c: H -> F; rule d: W -> M; term w:F a; term F b; term m:M a; term M b"),
		{Rules: namedRules(t, 12)},
	}
	for _, name := range sampleNames() {
		list = append(list, impl.SampleTerminology(name))
	}
	for range n {
		list = append(list, chanceTerminology(r))
	}
	return list
}

// manyEntries returns as many entries of different types, which namedRules do not reduce.
func manyEntries(n int) []impl.Entry {
	list := []impl.Entry{}
	for _, k := range typesUpTo(2) {
		reducible := len(k.Steps) == 2 && k.Steps[0].Kind == impl.StepFather
		if len(list) < n && !reducible {
			list = append(list, impl.Entry{Type: k, Term: "kin"})
		}
	}
	return list
}

// notTerminologies returns terminologies that are not valid, with what is wrong about each of them.
func notTerminologies(t *testing.T) map[string]impl.Terminology {
	base := func(change func(y *impl.Terminology)) impl.Terminology {
		y := terminology(t, "rule fb: FB -> F; rule bs: m:BS -> S; term F father; term m:S son; term B brother")
		change(&y)
		return y
	}
	list := map[string]impl.Terminology{
		"no term":                 base(func(y *impl.Terminology) { y.Entries[0].Term = "" }),
		"a capital":               base(func(y *impl.Terminology) { y.Entries[1].Term = "Son" }),
		"a long term":             base(func(y *impl.Terminology) { y.Entries[2].Term = "abcdefghijklm" }),
		"a term of words":         base(func(y *impl.Terminology) { y.Entries[2].Term = "a b" }),
		"a term of bytes":         base(func(y *impl.Terminology) { y.Entries[2].Term = "\xff\n" }),
		"a type twice":            base(func(y *impl.Terminology) { y.Entries[2].Type = y.Entries[0].Type }),
		"an entry twice":          base(func(y *impl.Terminology) { y.Entries[2] = y.Entries[0] }),
		"a type that is reduced":  base(func(y *impl.Terminology) { y.Entries[0].Type = looseType("FB") }),
		"the last one is reduced": base(func(y *impl.Terminology) { y.Entries[2].Type = looseType("w:MFBD") }),
		"reduced for its Ego":     base(func(y *impl.Terminology) { y.Entries[1].Type = looseType("m:BS") }),
		"reduced later":           base(func(y *impl.Terminology) { y.Entries[1].Type = looseType("WFSBS") }),
		"a rule's name twice":     base(func(y *impl.Terminology) { y.Rules[1].Name = "fb" }),
		"thirteen rules":          {Rules: namedRules(t, 13)},
		"sixty-one entries":       {Entries: manyEntries(61)},
		"very many entries":       {Entries: slices.Repeat(manyEntries(50), 2000)},
		"very many empty entries": {Entries: make([]impl.Entry, 100000)},
		"an empty entry":          {Entries: make([]impl.Entry, 1)},
		"an empty rule":           {Rules: make([]impl.Rule, 1)},
	}
	for label, r := range notRules(t) {
		list["a rule with "+label] = base(func(y *impl.Terminology) { y.Rules[1] = r })
	}
	for label, k := range notTypes() {
		list["a type with "+label] = base(func(y *impl.Terminology) { y.Entries[1].Type = k })
	}
	return list
}

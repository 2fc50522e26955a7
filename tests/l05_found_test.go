package tests

import (
	"slices"
	"strings"
	"testing"

	"loop.example/g03221/impl"
)

func TestP13IsReciprocal(t *testing.T) {
	cases := map[string][]bool{
		"":                                   {true, true, true},
		"term F a":                           {true, true, true},
		"term F a; term M a":                 {true, true, true}, // the sexes differ
		"term F a; term S a":                 {true, true, true}, // a man's son calls him a, as a man's father does, and a woman's call her nothing
		"term F a; term B a":                 {false, false, false},
		"term B a; term S a":                 {false, false, false},
		"term Z a; term M a":                 {false, false, false},
		"term F a; term B b":                 {true, true, true},
		"term w:F a; term w:B a":             {true, true, true}, // none of the reverses has a term
		"term w:F a; term w:B a; term m:Z b": {false, false, false},
		"term w:F a; term w:B a; term m:Z b; term m:D b":   {true, true, true},
		"term w:F a; term w:B a; term m:Z b; term m:D c":   {false, false, false},
		"term w:F a; term m:B a; term m:D b":               {true, true, true}, // from different sexes
		"term F a; term m:FF a; term m:S b":                {true, false, false},
		"term w:F a; term w:FF a; term m:D b":              {true, false, false},
		"term F a; term FFF a; term S b":                   {true, true, false},
		"term S a; term SSD b; term SSS a; term F c":       {true, true, false},
		"rule a: FB -> F; term F a":                        {true, true, true},
		"rule a: FB -> F; term F a; term S b":              {true, false, false},
		"rule a: FB -> F; rule b: BS -> S; term F a":       {true, true, true},
		"rule a: m:FB -> F; rule b: BS -> S; term F a":     {true, true, true},
		"rule a: FB -> F; rule b: BS -> S; term m:S a":     {true, true, true},
		"rule a: HB -> H; term H a; term w:Z b; term W c":  {true, false, false},
		"rule a: HB -> H; term H a; term w:BW b; term W c": {true, false, false},
	}
	for lines, want := range cases {
		y := terminology(t, lines)
		for n := 1; n <= 3; n++ {
			expect(t, wantReciprocal(y, n), want[n-1], "the test's own rules: %s up to %d", lines, n)
			expect(t, impl.IsReciprocal(y, n), want[n-1], "IsReciprocal %s up to %d", lines, n)
		}
		for _, n := range []int{lowest, -1, 0, 4, 8, highest} {
			expect(t, impl.IsReciprocal(y, n), false, "IsReciprocal %s up to %d", lines, n)
		}
	}
	for _, name := range append(sampleNames(), "none") {
		y := impl.SampleTerminology(name)
		for n := 1; n <= 3; n++ {
			expect(t, impl.IsReciprocal(y, n), wantReciprocal(y, n), "IsReciprocal %s up to %d", name, n)
		}
	}
}

func TestP13IsReciprocalByChance(t *testing.T) {
	r := newChance(91)
	count := map[bool]int{}
	for _, y := range someTerminologies(t, r, 400) {
		n := 1 + r.IntN(3)
		y.Entries = y.Entries[:min(len(y.Entries), 1+r.IntN(8))]
		want := wantReciprocal(y, n)
		count[want]++
		expect(t, impl.IsReciprocal(y, n), want, "IsReciprocal up to %d of %v", n, y)
	}
	if count[true] < 50 || count[false] < 50 {
		t.Errorf("reciprocal or not: %v", count)
	}
}

func TestP13SameDivision(t *testing.T) {
	const all, other = "term F k; term M k; term B k; term Z k; term S k; term D k; term H k; term W k", "term M k; term B k; term Z k; term S k; term D k; term H k; term W k"
	cases := []struct {
		y, z string
		want []bool
	}{
		{"", "", []bool{true, true, true}},
		{"term F a; term M b; term B a", "term F x; term M y; term B x", []bool{true, true, true}},
		{"term F a; term M b", "term F b; term M a", []bool{true, true, true}},
		{"term F a; term M a", "term F a; term M b", []bool{false, false, false}},
		{"term F a; term M b", "term F a", []bool{false, false, false}},
		{"term F a", "", []bool{false, false, false}},
		{"", all, []bool{true, false, false}},
		{"term F a", other, []bool{true, false, false}}, // who has no term in one, has one in the other
		{"term F a", "term m:F a; term w:F b", []bool{true, true, true}},
		{"term F a", "term m:F a", []bool{false, false, false}},
		{"term F a", "term w:F a", []bool{false, false, false}},
		{"term w:F a", "term w:M a", []bool{false, false, false}},
		{"term m:F a; term w:M a", "term m:F b; term w:M c", []bool{true, true, true}},
		{"term W a; term H b", "term W a; term H a", []bool{true, true, true}}, // a man has no husband
		{"term F a; term FF b", "term F a; term FF c", []bool{true, true, true}},
		{"term F a; term FF b", "term F a; term FF a", []bool{true, false, false}},
		{"term F a; term FFF b", "term F a", []bool{true, true, false}},
		{"term F a; term FFFF b", "term F a", []bool{true, true, true}},
		{"term F a; term eB b", "term F a", []bool{true, true, true}},
		{"rule a: FB -> F; term F a", "term F a; term FB a", []bool{true, true, false}},
		{"rule a: FF -> F; term F a", "term F a; term FF a; term FFF a", []bool{true, true, true}},
		{"rule a: w:FF -> F; term F a", "term F a; term w:FF a; term w:FFF a; term FFF b", []bool{true, true, false}},
	}
	for _, c := range cases {
		y, z := terminology(t, c.y), terminology(t, c.z)
		for n := 1; n <= 3; n++ {
			expect(t, wantSameDivision(y, z, n), c.want[n-1], "the test's own rules: %s and %s up to %d", c.y, c.z, n)
			expect(t, impl.SameDivision(y, z, n), c.want[n-1], "SameDivision %s and %s up to %d", c.y, c.z, n)
			expect(t, impl.SameDivision(z, y, n), c.want[n-1], "SameDivision %s and %s up to %d", c.z, c.y, n)
			expect(t, impl.SameDivision(y, y, n), true, "SameDivision %s and itself up to %d", c.y, n)
		}
		for _, n := range []int{lowest, -1, 0, 4, 8, highest} {
			expect(t, impl.SameDivision(y, y, n), false, "SameDivision up to %d", n)
		}
	}
}

func TestP13SameDivisionByChance(t *testing.T) {
	r := newChance(92)
	count := map[bool]int{}
	for _, y := range someTerminologies(t, r, 300) {
		z, n := chanceTerminology(r), 1+r.IntN(3)
		if r.IntN(4) > 0 {
			z = impl.Terminology{Rules: y.Rules, Entries: slices.Clone(y.Entries)}
			renamed := map[string]string{"a": "b", "b": "kin", "kin": "a", "cousin": "c"}
			for i, e := range z.Entries {
				z.Entries[i].Term = renamed[e.Term] + "x"
				if r.IntN(40) == 0 {
					z.Entries[i].Term = "y"
				}
			}
		}
		want := wantSameDivision(y, z, n)
		count[want]++
		expect(t, impl.SameDivision(y, z, n), want, "SameDivision up to %d of %v and %v", n, y, z)
		expect(t, impl.SameDivision(z, y, n), want, "SameDivision up to %d of %v and %v", n, z, y)
	}
	if count[true] < 50 || count[false] < 50 {
		t.Errorf("the same or not: %v", count)
	}
}

// pairList reads pairs of types.
func pairList(t *testing.T, texts string) []impl.TypePair {
	t.Helper()
	list := []impl.TypePair{}
	for _, text := range strings.Split(texts, "; ") {
		if a, b, ok := strings.Cut(text, " "); ok {
			list = append(list, impl.TypePair{A: kinType(t, a), B: kinType(t, b)})
		}
	}
	return list
}

func TestP13FindRules(t *testing.T) {
	const three = "a: FB -> F; b: FBS -> FS; c: FS -> B"
	cases := []struct {
		catalog, same, apart string
		want                 []int
		ok                   bool
	}{
		{"", "", "", nil, true}, {"", "F F; m:W m:W", "F M; F m:F; W m:W", nil, true}, {"", "F M", "", nil, false}, {"", "", "F F", nil, false}, {"", "W m:W", "", nil, false},
		{three, "", "", nil, true}, {three, "F F", "F M", nil, true}, {three, "", "F F", nil, false}, {three, "F M", "", nil, false},
		{three, "m:FB m:F", "", []int{0}, true}, {three, "FBS FS", "", []int{0}, true}, {three, "FBS FS", "FB F", []int{1}, true}, {three, "FBS B", "", []int{0, 2}, true}, {three, "FBS B", "FB F", []int{1, 2}, true}, {three, "FBS B; FB F", "", []int{0, 2}, true},
		{three, "FS B", "FBS FS", []int{2}, true}, {three, "FS B; FBS FS", "", []int{0, 2}, true}, {three, "FS B", "FBS FS; F FBS", []int{2}, true}, {three, "FB F; FBS FS", "FS B", []int{0}, true}, {three, "FB F", "FBS FS", nil, false}, {three, "FB FS", "", nil, false},
		{"a: B -> F; b: S -> F", "B S", "", []int{0, 1}, true}, {"a: B -> F; b: S -> B; c: S -> F", "B S", "", []int{1}, true}, {"a: B -> F; b: S -> B; c: S -> F", "B S; B F", "", []int{0, 1}, true}, {"a: B -> F; b: S -> B; c: S -> F", "S F", "", []int{2}, true}, {"c: S -> F; a: B -> F; b: S -> B", "S F; B F", "B M", []int{0, 1}, true},
		{"a: W -> Z", "W m:W", "", []int{0}, true}, {"a: H -> S", "H w:H", "W m:W", []int{0}, true}, {"a: H -> S", "H H", "H w:H", nil, true}, {"a: WF -> F", "W m:W", "", nil, false}, {"a: HF -> S", "HF w:S", "", []int{0}, true}, {"a: HF -> S", "HF S", "", nil, false},
		{"a: FM -> M; b: MM -> M; c: FMM -> M; d: FMM -> FM", "FMM M", "", []int{2}, true}, {"a: FM -> M; b: MM -> M; c: FMMM -> M; d: FMM -> FM", "FMM M", "", []int{0, 1}, true}, {"b: MM -> M; a: FMM -> FM; d: FM -> M", "FMM M", "FMM MM", []int{1, 2}, true},
		// Of the two rules that fit at the same step, the first one is applied.
		{"b: FSS -> S; a: FS -> B", "FSS BS", "", []int{1}, true}, {"b: FSS -> S; a: FS -> B", "FSS S; FS B", "", []int{0, 1}, true}, {"a: FS -> B; b: FSS -> S", "FSS S; FS B", "", nil, false},
	}
	for _, c := range cases {
		catalog, same, apart := ruleList(t, c.catalog), pairList(t, c.same), pairList(t, c.apart)
		found, ok := impl.FindRules(catalog, same, apart)
		expect(t, ok, c.ok, "FindRules %s, same %s, apart %s succeeds", c.catalog, c.same, c.apart)
		expect(t, found, c.want, "FindRules %s, same %s, apart %s", c.catalog, c.same, c.apart)
	}
}

// TestP13FindRulesLimits: eight rules and forty pairs are allowed, one more is not.
func TestP13FindRulesLimits(t *testing.T) {
	for n := range 14 {
		catalog := namedRules(t, n)
		if n > 0 {
			catalog[n-1] = rule(t, "last: FS -> B")
		}
		found, ok := impl.FindRules(catalog, pairList(t, "FS B"), nil)
		expect(t, ok, n >= 1 && n <= 8, "FindRules in %d rules succeeds", n)
		if ok {
			expect(t, found, []int{n - 1}, "FindRules in %d rules", n)
		}
		found, ok = impl.FindRules(catalog, nil, nil)
		expect(t, ok && len(found) == 0, n <= 8, "FindRules in %d rules without pairs", n)
	}
	for n := 39; n <= 42; n++ {
		for _, cut := range []int{0, 1, 20, 39, n} {
			same, apart := slices.Repeat(pairList(t, "FS B"), cut), slices.Repeat(pairList(t, "FB F"), n-cut)
			found, ok := impl.FindRules(ruleList(t, "a: FB -> F; b: FS -> B"), same, apart)
			expect(t, ok, n <= 40, "FindRules for %d and %d pairs succeeds", cut, n-cut)
			want := []int{}
			if n <= 40 && cut > 0 {
				want = []int{1}
			}
			expect(t, found, want, "FindRules for %d and %d pairs", cut, n-cut)
		}
	}
	many := slices.Repeat(pairList(t, "F F"), 100000)
	_, ok := impl.FindRules(nil, many, nil)
	expect(t, ok, false, "FindRules for very many pairs")
	// All eight rules are needed, one for each letter.
	all := ruleList(t, "a: FF -> F; b: MM -> M; c: BB -> B; d: ZZ -> Z; e: SS -> S; f: DD -> D; g: HWH -> H; h: WHW -> W")
	pairs := pairList(t, "FF F; MM M; BB B; ZZ Z; SS S; DD D; HWH w:H; WHW m:W")
	found, ok := impl.FindRules(all, pairs, nil)
	expect(t, found, []int{0, 1, 2, 3, 4, 5, 6, 7}, "FindRules of all rules")
	expect(t, ok, true, "FindRules of all rules succeeds")
	found, ok = impl.FindRules(all, pairs, pairList(t, "FF F"))
	expect(t, !ok && len(found) == 0, true, "FindRules of no rules")
}

func TestP13FindRulesByChance(t *testing.T) {
	r := newChance(93)
	count := map[bool]int{}
	for range 600 {
		catalog, same, apart := chanceProblem(r)
		found, ok := impl.FindRules(catalog, same, apart)
		want, wantOk := wantFound(catalog, same, apart)
		count[ok]++
		expect(t, ok, wantOk, "FindRules %v, same %v, apart %v succeeds", catalog, same, apart)
		expect(t, found, want, "FindRules %v, same %v, apart %v", catalog, same, apart)
	}
	if count[true] < 100 || count[false] < 50 {
		t.Errorf("found or not: %v", count)
	}
}

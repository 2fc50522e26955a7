package tests

import (
	"math/rand/v2"
	"testing"

	"loop.example/g03221/impl"
)

func TestP13JoinUnion(t *testing.T) {
	f := parse(t, house)
	law := impl.Law{Degree: 2, Age: 16, Wives: 1, Husbands: 2}
	g, ok := impl.JoinUnion(f, law, tubal, zilla, 70)
	expect(t, ok, true, "JoinUnion succeeds")
	expect(t, impl.FormatFamily(g), house+"union tubal zilla 70 -\n", "JoinUnion")
	// A union that began before others is behind them too.
	g, ok = impl.JoinUnion(f, free, stranger, eva, 17)
	expect(t, ok, true, "JoinUnion succeeds in an earlier year")
	expect(t, impl.FormatFamily(g), house+"union stranger eva 17 -\n", "JoinUnion in an earlier year")
	g, ok = impl.JoinUnion(f, free, stranger, eva, 60)
	expect(t, impl.FormatFamily(g), house+"union stranger eva 60 -\n", "JoinUnion in the year of a death is %v", ok)
	for _, year := range []int{66, 50, 0, -1, lowest, highest} {
		g, ok = impl.JoinUnion(f, impl.Law{Degree: 3, Age: 16, Wives: 1, Husbands: 1}, tubal, zilla, year)
		checkNoUnion(t, g, ok, "barred")
	}
	g, ok = impl.JoinUnion(f, free, zilla, tubal, 70)
	checkNoUnion(t, g, ok, "barred by their sexes")
}

func checkNoUnion(t *testing.T, g impl.Family, ok bool, label string) {
	t.Helper()
	expect(t, ok || !isZeroFamily(g), false, "JoinUnion %s is %v, %v", label, g, ok)
}

// TestP13JoinUnionNotValid: nothing bars them, but there is no such family.
func TestP13JoinUnionNotValid(t *testing.T) {
	f := parse(t, house)
	for _, year := range []int{9998, 9999, 10000, 10001, 1 << 32, highest} {
		expect(t, impl.MayMarry(f, free, stranger, zilla, year), true, "MayMarry in %d", year)
		g, ok := impl.JoinUnion(f, free, stranger, zilla, year)
		expect(t, ok, year <= 9999, "JoinUnion in %d", year)
		if !ok {
			checkNoUnion(t, g, ok, "behind the last year")
		}
	}
	r := newChance(175)
	for united := 57; united <= 60; united++ {
		f := weddingFamily(r, 8, 8, united)
		for man := range 8 {
			for _, woman := range impl.PartnersAllowed(f, free, man, 40) {
				g, ok := impl.JoinUnion(f, free, man, woman, 40)
				expect(t, ok, united < 60, "JoinUnion beside %d unions", united)
				expect(t, len(g.Unions), []int{0, united + 1}[min(1, 60-united)], "unions beside %d", united)
			}
		}
		expect(t, impl.MostWeddings(f, free, 40) > 0, true, "MostWeddings beside %d unions", united)
	}
}

func TestP13JoinUnionByChance(t *testing.T) {
	r := newChance(176)
	count := map[bool]int{}
	for _, f := range marriageFamilies(t, r, 40) {
		d := stepsOf(f)
		for range 40 * min(1, len(f.People)) {
			law, a, b, year := chanceLaw(r), r.IntN(len(f.People)), r.IntN(len(f.People)), chanceYear(r, f)
			if r.IntN(2) == 0 {
				law = free
			}
			want := copyOf(f)
			want.Unions = append(want.Unions, impl.Union{Man: a, Woman: b, From: year, To: -1})
			allowed := d.mayMarry(law, a, b, year) && wantFamily(want)
			if !allowed {
				want = impl.Family{}
			}
			got, ok := impl.JoinUnion(f, law, a, b, year)
			count[ok]++
			expect(t, ok, allowed, "JoinUnion %v %s %d %d %d succeeds", f, looseLawText(law), a, b, year)
			expect(t, impl.EqualFamilies(got, want), true, "JoinUnion %v %s %d %d %d is %v", f, looseLawText(law), a, b, year, got)
		}
	}
	if count[true] < 100 || count[false] < 100 {
		t.Errorf("allowed or not: %v", count)
	}
}

func TestP13AuditUnions(t *testing.T) {
	f := parse(t, house)
	one := impl.Law{Degree: 2, Age: 18, Wives: 1, Husbands: 1}
	// adam is united with eva when lilith comes, and lilith with nobody when the stranger comes.
	expect(t, impl.AuditUnions(f, one), [][]int{{3}, {4}, {7}, {3}}, "AuditUnions of one wife")
	expect(t, impl.AuditUnions(f, free), [][]int{{}, {}, {}, {}}, "AuditUnions of the free law")
	lines := free
	lines.Patriline, lines.Matriline, lines.Affinity, lines.Canon = true, true, 2, 1
	expect(t, impl.AuditUnions(f, lines), [][]int{{}, {}, {8, 9, 10}, {}}, "AuditUnions of lines")
	expect(t, impl.AuditUnions(parse(t, inlaws), lines), [][]int{{}, {11}, {}}, "AuditUnions of inlaws")
	expect(t, impl.AuditUnions(impl.Family{}, one), [][]int{}, "AuditUnions of nobody")
	expect(t, len(impl.AuditUnions(without(t, "cain ada"), one)), 3, "AuditUnions of three")
}

// TestP13AuditUnionsByYear: what began later does not count, wherever it is listed; in one year, the index decides.
func TestP13AuditUnionsByYear(t *testing.T) {
	const people = "man a - - 0 -\nwoman b - - 0 -\nwoman c - - 0 -\nwoman d - - 0 -\n"
	one := impl.Law{Wives: 1, Husbands: 1}
	cases := map[string][][]int{
		"union a b 20 -\nunion a c 30 -\nunion a d 40 -\n":   {{}, {4}, {4}},
		"union a b 40 -\nunion a c 30 -\nunion a d 20 -\n":   {{4}, {4}, {}},
		"union a b 20 -\nunion a c 20 -\nunion a d 20 -\n":   {{}, {4}, {4}},
		"union a b 30 -\nunion a c 20 -\nunion a d 30 -\n":   {{4}, {}, {4}},
		"union a b 20 30\nunion a c 30 40\nunion a d 40 -\n": {{}, {}, {}},
		"union a b 20 31\nunion a c 30 41\nunion a d 40 -\n": {{}, {4}, {4}},
		"union a b 40 -\nunion a c 30 40\nunion a d 20 30\n": {{}, {}, {}},
		"union a b 20 20\nunion a c 20 20\nunion a d 20 -\n": {{}, {}, {}},
		"union a b 20 -\nunion a c 20 20\nunion a d 20 -\n":  {{}, {4}, {4}},
		"union a b 20 20\nunion a c 20 -\nunion a d 20 20\n": {{}, {}, {4}},
	}
	for unions, want := range cases {
		expect(t, impl.AuditUnions(parse(t, people+unions), one), want, "AuditUnions %q", unions)
	}
}

func TestP13AuditUnionsByChance(t *testing.T) {
	r := newChance(177)
	count := map[int]int{}
	for _, f := range marriageFamilies(t, r, 40) {
		d := stepsOf(f)
		for range 3 {
			law := chanceLaw(r)
			want := d.audit(law)
			expect(t, impl.AuditUnions(f, law), want, "AuditUnions %v %s", f, looseLawText(law))
			for _, list := range want {
				count[len(list)]++
			}
		}
	}
	if count[0] < 200 || count[1] < 200 || count[2] < 200 {
		t.Errorf("unions with so many impediments: %v", count)
	}
}

func TestP13MostWeddings(t *testing.T) {
	f := parse(t, house)
	expect(t, impl.MostWeddings(f, free, 60), 4, "MostWeddings of the free law")
	expect(t, impl.MostWeddings(f, impl.Law{Degree: 2, Age: 16, Wives: 1, Husbands: 1}, 67), 1, "MostWeddings of one wife")
	expect(t, impl.MostWeddings(f, free, 10000), 3, "MostWeddings in a late year")
	expect(t, impl.MostWeddings(f, free, highest), 3, "MostWeddings in the last year")
	expect(t, impl.MostWeddings(f, free, 0), 0, "MostWeddings of a man and no woman")
	expect(t, impl.MostWeddings(f, free, lowest), 0, "MostWeddings before all")
	expect(t, impl.MostWeddings(impl.Family{}, free, 0), 0, "MostWeddings of nobody")
	r := newChance(178)
	for men := range 41 {
		expect(t, impl.MostWeddings(weddingFamily(r, men, 40-men, 0), free, 30), min(men, 40-men), "MostWeddings of %d men", men)
	}
}

// zigzag allows the man i of n the women i and i+1 only, for they were united with all others, and the last man only the last woman.
func zigzag(r *rand.Rand, n int) impl.Family {
	f := weddingFamily(r, n, n, 0)
	for man := range n {
		for woman := range n {
			if woman != man && woman != man+1 {
				f.Unions = append(f.Unions, impl.Union{Man: man, Woman: n + woman, From: 20, To: 30})
			}
		}
	}
	return f
}

// TestP13MostWeddingsOfAll: there is one way to unite all, wherever each of them is listed.
func TestP13MostWeddingsOfAll(t *testing.T) {
	r := newChance(179)
	for n := 1; n <= 8; n++ {
		f := zigzag(r, n)
		for range 30 {
			order := r.Perm(2 * n)
			g, ok := impl.PermutePeople(f, order)
			expect(t, ok, true, "PermutePeople %v", order)
			expect(t, impl.MostWeddings(g, free, 40), n, "MostWeddings of %d pairs in the order %v", n, order)
		}
	}
}

func TestP13MostWeddingsByChance(t *testing.T) {
	r := newChance(180)
	count := map[int]int{}
	for _, f := range marriageFamilies(t, r, 60) {
		if len(f.People) > 16 {
			continue
		}
		d := stepsOf(f)
		for i := range 6 {
			law, year := free, 40
			if i > 1 {
				law, year = chanceLaw(r), chanceYear(r, f)
			}
			want := d.mostWeddings(law, year)
			expect(t, impl.MostWeddings(f, law, year), want, "MostWeddings %v %s %d", f, looseLawText(law), year)
			count[want]++
		}
	}
	if count[0] < 50 || count[1] < 50 || count[2] < 50 || count[4] < 10 {
		t.Errorf("weddings: %v", count)
	}
}

package tests

import (
	"testing"

	"loop.example/g03221/impl"
)

func TestP13AncestorsAndDescendants(t *testing.T) {
	f := parse(t, house)
	above := [][]int{
		{}, {}, {}, {adam, eva}, {adam, eva}, {adam, eva}, {adam, lilith}, {adam}, {lilith}, {adam, eva, ada, cain}, {},
	}
	below := [][]int{
		{ada, cain, abel, seth, zilla, tubal}, {ada, cain, abel, tubal}, {seth, enos}, {tubal}, {tubal}, {}, {}, {}, {}, {}, {},
	}
	for p := range f.People {
		expect(t, impl.AncestorsOf(f, p), above[p], "AncestorsOf %d", p)
		expect(t, impl.DescendantsOf(f, p), below[p], "DescendantsOf %d", p)
	}
}

func TestP13DepthOfAncestors(t *testing.T) {
	f := chain(t)
	expect(t, impl.AncestorsOf(f, 10), []int{0, 1, 2, 3, 4, 5, 6, 7, 8, 9}, "AncestorsOf the last one")
	expect(t, impl.DescendantsOf(f, 0), []int{1, 2, 3, 4, 5, 6, 7, 8, 9, 10}, "DescendantsOf the first one")
	for p := range f.People {
		for q := range f.People {
			n, ok := impl.StepsUp(f, p, q)
			expect(t, []any{n, ok}, []any{max(0, p-q), p >= q}, "StepsUp %d %d", p, q)
			n, ok = impl.CivilDegree(f, p, q)
			expect(t, []any{n, ok}, []any{max(p-q, q-p), true}, "CivilDegree %d %d", p, q)
			n, ok = impl.CanonDegree(f, p, q)
			expect(t, []any{n, ok}, []any{max(p-q, q-p), true}, "CanonDegree %d %d", p, q)
		}
	}
}

// twoWays has a person from whom short and long ways lead to the same ancestors.
func twoWays(t *testing.T) impl.Family {
	t.Helper()
	// a is the father of g and of h, and also four steps above g by the mother.
	return parse(t, "man a - - 0 -\nwoman b a - 10 -\nwoman c - b 20 -\nwoman d - c 30 -\nman e - - 0 -\nwoman f e d 40 -\nman g a f 50 -\nwoman h a - 60 -\nman z g h 70 -\n")
}

func TestP13StepsUp(t *testing.T) {
	f := twoWays(t)
	cases := []struct {
		p, q, want int
		ok         bool
	}{
		{8, 0, 2, true}, {6, 0, 1, true}, {5, 0, 4, true}, {6, 1, 4, true}, {8, 1, 5, true}, {8, 4, 3, true}, {8, 7, 1, true},
		{8, 8, 0, true}, {0, 0, 0, true}, {0, 8, 0, false}, {7, 6, 0, false}, {4, 0, 0, false}, {0, 4, 0, false}, {1, 8, 0, false},
	}
	for _, c := range cases {
		n, ok := impl.StepsUp(f, c.p, c.q)
		expect(t, []any{n, ok}, []any{c.want, c.ok}, "StepsUp %d %d", c.p, c.q)
	}
}

func TestP13CommonAncestors(t *testing.T) {
	f := parse(t, house)
	cases := []struct {
		a, b            int
		common, nearest []int
	}{
		{adam, adam, []int{adam}, []int{adam}}, {adam, eva, nil, nil}, {adam, cain, []int{adam}, []int{adam}},
		{cain, ada, []int{adam, eva}, []int{adam, eva}}, {cain, seth, []int{adam}, []int{adam}}, {cain, enos, nil, nil},
		{cain, cain, []int{adam, eva, cain}, []int{cain}}, {tubal, cain, []int{adam, eva, cain}, []int{cain}},
		{tubal, abel, []int{adam, eva}, []int{adam, eva}}, {tubal, tubal, []int{adam, eva, ada, cain, tubal}, []int{tubal}},
		{seth, enos, []int{lilith}, []int{lilith}}, {zilla, tubal, []int{adam}, []int{adam}}, {stranger, tubal, nil, nil}, {stranger, stranger, []int{stranger}, []int{stranger}},
	}
	for _, c := range cases {
		for _, pair := range [][2]int{{c.a, c.b}, {c.b, c.a}} {
			expect(t, impl.CommonAncestors(f, pair[0], pair[1]), c.common, "CommonAncestors %v", pair)
			expect(t, impl.NearestCommon(f, pair[0], pair[1]), c.nearest, "NearestCommon %v", pair)
		}
	}
	// The parents of f are full siblings, and j descends from a by both parents.
	g := parse(t, "woman a - - 0 -\nman b - a 20 -\nwoman c - - 20 -\nman d b c 40 -\nwoman e b c 40 -\nman f d e 60 -\nman h d - 60 -\nwoman i - a 30 -\nman j h i 80 -\n")
	expect(t, impl.CommonAncestors(g, 5, 8), []int{0, 1, 2, 3}, "CommonAncestors of f and j")
	expect(t, impl.NearestCommon(g, 5, 8), []int{3}, "NearestCommon of f and j")
	m := twoWays(t)
	expect(t, impl.CommonAncestors(m, 6, 7), []int{0}, "CommonAncestors of g and h")
	expect(t, impl.NearestCommon(m, 8, 5), []int{5}, "NearestCommon of z and f")
	expect(t, impl.CommonAncestors(m, 8, 5), []int{0, 1, 2, 3, 4, 5}, "CommonAncestors of z and f")
}

func TestP13NearestCommonOfSeveral(t *testing.T) {
	// x and y are children of b, and of children of d; a is above all of them.
	f := parse(t, "man a - - 0 -\nman b a - 20 -\nwoman c - - 20 -\nwoman d - c 40 -\nwoman e - d 60 -\nwoman g - d 60 -\nman x b e 80 -\nman y b g 80 -\n")
	expect(t, impl.CommonAncestors(f, 6, 7), []int{0, 1, 2, 3}, "CommonAncestors")
	expect(t, impl.NearestCommon(f, 6, 7), []int{1, 3}, "NearestCommon")
	n, m, ok := impl.LinkOf(f, 6, 7)
	expect(t, []any{n, m, ok}, []any{1, 1, true}, "LinkOf")
}

// checkLink: the link and the degrees of a and b.
func checkLink(t *testing.T, f impl.Family, a int, b int, n int, m int, canon int) {
	t.Helper()
	x, y, ok := impl.LinkOf(f, a, b)
	expect(t, []any{x, y, ok}, []any{n, m, true}, "LinkOf %d %d", a, b)
	civil, ok := impl.CivilDegree(f, a, b)
	expect(t, []any{civil, ok}, []any{n + m, true}, "CivilDegree %d %d", a, b)
	x, ok = impl.CanonDegree(f, a, b)
	expect(t, []any{x, ok}, []any{canon, true}, "CanonDegree %d %d", a, b)
}

// checkNoLink: a and b are not related, or not there.
func checkNoLink(t *testing.T, f impl.Family, a int, b int) {
	t.Helper()
	x, y, ok := impl.LinkOf(f, a, b)
	expect(t, []any{x, y, ok}, []any{0, 0, false}, "LinkOf %d %d", a, b)
	civil, ok := impl.CivilDegree(f, a, b)
	expect(t, []any{civil, ok}, []any{0, false}, "CivilDegree %d %d", a, b)
	canon, ok := impl.CanonDegree(f, a, b)
	expect(t, []any{canon, ok}, []any{0, false}, "CanonDegree %d %d", a, b)
}

func TestP13Degrees(t *testing.T) {
	f := parse(t, house)
	cases := []struct{ a, b, n, m, canon int }{
		{adam, adam, 0, 0, 0}, {stranger, stranger, 0, 0, 0}, {tubal, tubal, 0, 0, 0},
		{adam, cain, 0, 1, 1}, {cain, adam, 1, 0, 1}, {adam, tubal, 0, 2, 2}, {tubal, eva, 2, 0, 2},
		{cain, ada, 1, 1, 1}, {cain, seth, 1, 1, 1}, {tubal, abel, 2, 1, 2}, {abel, tubal, 1, 2, 2}, {zilla, tubal, 1, 2, 2}, {tubal, cain, 1, 0, 1},
	}
	for _, c := range cases {
		checkLink(t, f, c.a, c.b, c.n, c.m, c.canon)
	}
	for _, pair := range [][2]int{{adam, eva}, {cain, enos}, {stranger, tubal}, {lilith, zilla}, {eva, seth}} {
		checkNoLink(t, f, pair[0], pair[1])
		checkNoLink(t, f, pair[1], pair[0])
	}
}

// TestP13LinksWithTheLeastSum: the least sum, then the least greater number, then the least first number.
func TestP13LinksWithTheLeastSum(t *testing.T) {
	// To a one step from x and three from y, to b three and one.
	f := parse(t, "man a - - 0 -\nman b - - 0 -\nwoman c b - 20 -\nwoman d a - 20 -\nwoman e - c 40 -\nwoman g - d 40 -\nman x a e 80 -\nman y b g 80 -\n")
	checkLink(t, f, 6, 7, 1, 3, 3)
	checkLink(t, f, 7, 6, 1, 3, 3)
	// To a one and three, to c two and three.
	f = parse(t, "man a - - 0 -\nwoman c - - 0 -\nman g a - 20 -\nman k - c 20 -\nman i g - 40 -\nwoman h - c 40 -\nwoman j k - 41 -\nman x a h 60 -\nman y i j 70 -\n")
	checkLink(t, f, 7, 8, 1, 3, 3)
	checkLink(t, f, 8, 7, 3, 1, 3)
	// To a one and three, to c two and two.
	f = parse(t, "man a - - 0 -\nwoman c - - 0 -\nman g a - 20 -\nman i g - 40 -\nwoman h - c 40 -\nwoman j - c 41 -\nman x a h 60 -\nman y i j 70 -\n")
	checkLink(t, f, 6, 7, 2, 2, 2)
	checkLink(t, f, 7, 6, 2, 2, 2)
	// Four steps from b to a, and three from each of them to c.
	f = parse(t, "woman c - - 0 -\nwoman d - c 20 -\nwoman e - d 40 -\nman a - e 60 -\nman g a - 80 -\nman h g - 100 -\nman i h - 120 -\nwoman j - c 30 -\nwoman k - j 121 -\nman b i k 140 -\n")
	checkLink(t, f, 3, 9, 0, 4, 3)
	checkLink(t, f, 9, 3, 4, 0, 3)
}

// checkDegrees holds all functions of degrees to the test's own rules.
func checkDegrees(t *testing.T, f impl.Family, d degrees, count map[string]int) {
	t.Helper()
	for a := range f.People {
		expect(t, impl.AncestorsOf(f, a), d.above(a), "AncestorsOf %v %d", f, a)
		expect(t, impl.DescendantsOf(f, a), d.below(a), "DescendantsOf %v %d", f, a)
		for b := range f.People {
			n, ok := impl.StepsUp(f, a, b)
			expect(t, []any{n, ok}, []any{max(0, d.up[a][b]), d.up[a][b] != -1}, "StepsUp %v %d %d", f, a, b)
			common, nearest := d.common(a, b), d.nearest(a, b)
			expect(t, impl.CommonAncestors(f, a, b), common, "CommonAncestors %v %d %d", f, a, b)
			expect(t, impl.NearestCommon(f, a, b), nearest, "NearestCommon %v %d %d", f, a, b)
			x, y, related := d.link(a, b)
			if !related {
				checkNoLink(t, f, a, b)
				count["not related"]++
				continue
			}
			canon, _ := d.canon(a, b)
			checkLink(t, f, a, b, x, y, canon)
			if canon < max(x, y) {
				count["canon"]++
			}
			if len(nearest) > 1 && len(nearest) < len(common) {
				count["some nearest"]++
			}
			if d.up[a][b] == -1 && d.up[b][a] == -1 && x != y {
				count["crooked"]++
			}
		}
	}
}

func TestP13DegreesByChance(t *testing.T) {
	r := newChance(154)
	count := map[string]int{}
	for _, f := range degreeFamilies(t, r, 20) {
		checkDegrees(t, f, degreesOf(f), count)
	}
	if count["not related"] < 1000 || count["some nearest"] < 200 || count["crooked"] < 1000 || count["canon"] < 10 {
		t.Errorf("pairs of all kinds: %v", count)
	}
}

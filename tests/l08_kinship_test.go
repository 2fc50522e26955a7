package tests

import (
	"slices"
	"testing"

	"loop.example/g03221/impl"
)

func TestP13DescentLines(t *testing.T) {
	f := parse(t, house)
	cases := []struct {
		q, p int
		want [][]int
	}{
		{adam, adam, [][]int{{adam}}}, {tubal, tubal, [][]int{{tubal}}}, {stranger, stranger, [][]int{{stranger}}},
		{adam, cain, [][]int{{adam, cain}}}, {lilith, enos, [][]int{{lilith, enos}}}, {adam, zilla, [][]int{{adam, zilla}}},
		{adam, tubal, [][]int{{adam, ada, tubal}, {adam, cain, tubal}}}, {eva, tubal, [][]int{{eva, ada, tubal}, {eva, cain, tubal}}},
		{cain, tubal, [][]int{{cain, tubal}}}, {cain, adam, nil}, {tubal, adam, nil}, {adam, eva, nil}, {adam, enos, nil}, {stranger, tubal, nil}, {cain, ada, nil},
	}
	for _, c := range cases {
		lines, ok := impl.DescentLines(f, c.q, c.p)
		expect(t, lines, c.want, "DescentLines %d %d", c.q, c.p)
		expect(t, ok, true, "DescentLines %d %d succeeds", c.q, c.p)
	}
	g := twoWays(t)
	lines, ok := impl.DescentLines(g, 0, 8)
	expect(t, lines, [][]int{{0, 1, 2, 3, 5, 6, 8}, {0, 6, 8}, {0, 7, 8}}, "DescentLines of different lengths")
	expect(t, ok, true, "DescentLines of different lengths succeeds")
	// The elder children are listed later: the order is that of the indices.
	h := parse(t, "man a - - 0 -\nwoman b a - 30 -\nman c a - 20 -\nman d - b 50 -\nwoman e c - 40 -\nman x d e 70 -\n")
	lines, _ = impl.DescentLines(h, 0, 5)
	expect(t, lines, [][]int{{0, 1, 3, 5}, {0, 2, 4, 5}}, "DescentLines by indices")
	m := chain(t)
	lines, _ = impl.DescentLines(m, 0, 10)
	expect(t, lines, [][]int{{0, 1, 2, 3, 4, 5, 6, 7, 8, 9, 10}}, "the longest line")
}

// TestP13TooManyLines: as many as MaxLines, one less and one more.
func TestP13TooManyLines(t *testing.T) {
	f := manyLines(t)
	for p, n := range map[int]int{2: 1, 4: 2, 14: 64, 15: 64, by96: 96, by99: 99, by100: 100, by101: 101} {
		for _, q := range []int{0, 1} {
			expect(t, len(linesBetween(f, q, p)), n, "the lines from %d to %d", q, p)
			lines, ok := impl.DescentLines(f, q, p)
			if n > 100 {
				expect(t, len(lines) == 0 && !ok, true, "DescentLines %d %d, but %v %v", q, p, lines, ok)
				continue
			}
			expect(t, lines, linesBetween(f, q, p), "DescentLines %d %d", q, p)
			expect(t, ok, true, "DescentLines %d %d succeeds", q, p)
		}
	}
	g := ladder(10)
	for p := range g.People {
		lines, ok := impl.DescentLines(g, 0, p)
		expect(t, ok, p < 16, "DescentLines 0 %d of the ladder", p)
		expect(t, len(lines) == 0, p >= 16 || p == 1, "DescentLines 0 %d of the ladder, none", p)
		// There are many lines to the last ones, and none of them begins with a person who has no children.
		lines, ok = impl.DescentLines(g, 20, p)
		expect(t, len(lines) == 1 && ok, p == 20, "DescentLines 20 %d of the ladder", p)
		expect(t, ok, true, "DescentLines 20 %d of the ladder", p)
	}
}

func checkKinship(t *testing.T, f impl.Family, a int, b int, want string) {
	t.Helper()
	expect(t, impl.FormatDyad(impl.Kinship(f, a, b)), want, "Kinship %d %d", a, b)
	expect(t, impl.FormatDyad(impl.Kinship(f, b, a)), want, "Kinship %d %d", b, a)
	sum, ok := impl.KinshipByLines(f, a, b)
	expect(t, impl.FormatDyad(sum), want, "KinshipByLines %d %d", a, b)
	expect(t, ok, true, "KinshipByLines %d %d succeeds", a, b)
}

func TestP13Kinship(t *testing.T) {
	f := parse(t, house)
	cases := []struct {
		a, b int
		want string
	}{
		{adam, adam, "1/2"}, {cain, cain, "1/2"}, {zilla, zilla, "1/2"}, {tubal, tubal, "5/8"}, {stranger, stranger, "1/2"},
		{adam, eva, "0"}, {adam, cain, "1/4"}, {cain, ada, "1/4"}, {cain, seth, "1/8"}, {seth, enos, "1/8"}, {zilla, seth, "1/8"},
		{tubal, adam, "1/4"}, {tubal, cain, "3/8"}, {tubal, abel, "1/4"}, {tubal, seth, "1/8"}, {tubal, zilla, "1/8"}, {tubal, enos, "0"}, {stranger, tubal, "0"},
	}
	for _, c := range cases {
		checkKinship(t, f, c.a, c.b, c.want)
	}
	for p := range f.People {
		want := "0"
		if p == tubal {
			want = "1/4"
		}
		expect(t, impl.FormatDyad(impl.Inbreeding(f, p)), want, "Inbreeding %d", p)
	}
}

// TestP13KinshipOfCousins: cousins of all degrees up to the greatest depth, by one ancestor and by two.
func TestP13KinshipOfCousins(t *testing.T) {
	var f impl.Family
	f.People = []impl.Person{{Name: "a", Sex: 1, Father: -1, Mother: -1, Died: -1}, {Name: "b", Sex: 2, Father: -1, Mother: -1, Died: -1}}
	other, full, half := addChild(&f, 1, 0, 1), addChild(&f, 1, 0, 1), addChild(&f, 1, 0, -1)
	for n := 1; n <= 10; n++ {
		checkKinship(t, f, other, full, impl.FormatDyad(impl.Dyad{Num: 1, Exp: 2 * n}))
		checkKinship(t, f, other, half, impl.FormatDyad(impl.Dyad{Num: 1, Exp: 2*n + 1}))
		checkKinship(t, f, 0, half, impl.FormatDyad(impl.Dyad{Num: 1, Exp: n + 1}))
		if n < 10 {
			other, full, half = addChild(&f, 1, other, -1), addChild(&f, 1, full, -1), addChild(&f, 1, half, -1)
		}
	}
	expect(t, impl.DepthOf(f, other), 10, "the depth of the last one")
}

// TestP13KinshipOfTheLadder: the inbreeding of the children of brothers and sisters, generation by generation.
func TestP13KinshipOfTheLadder(t *testing.T) {
	f := ladder(10)
	want := []string{"0", "0", "1/4", "3/8", "1/2", "19/32", "43/64", "47/64", "201/256", "423/512", "55/64"}
	for p := range f.People {
		expect(t, impl.FormatDyad(impl.Inbreeding(f, p)), want[p/2], "Inbreeding %d", p)
	}
	expect(t, impl.FormatDyad(impl.Kinship(f, 20, 21)), "1815/2048", "Kinship of the last ones")
}

// TestP13KinshipByTooManyLines: it matters to how many persons above both there are too many lines, and to no other ones.
func TestP13KinshipByTooManyLines(t *testing.T) {
	f := manyLines(t)
	for _, p := range []int{14, by96, by99, by100} {
		for _, q := range []int{0, 1, 2, 9, 15, by99, by100} {
			sum, ok := impl.KinshipByLines(f, p, q)
			expect(t, ok && sum == impl.Kinship(f, p, q), true, "KinshipByLines %d %d is %v, %v", p, q, sum, ok)
		}
	}
	for q := range f.People {
		for _, pair := range [][2]int{{by101, q}, {q, by101}} {
			sum, ok := impl.KinshipByLines(f, pair[0], pair[1])
			checkNoDyad(t, sum, ok, "KinshipByLines %v", pair)
		}
	}
	g := ladder(8)
	mother := addChild(&g, 2, -1, -1)
	child := addChild(&g, 1, 16, mother)
	sister := addChild(&g, 2, -1, mother)
	_, ok := impl.DescentLines(g, 0, child)
	expect(t, ok, false, "DescentLines to the child")
	checkKinship(t, g, child, sister, "1/8")
	checkKinship(t, g, child, mother, "1/4")
	checkKinship(t, g, 16, sister, "0")
	sum, ok := impl.KinshipByLines(g, child, child)
	checkNoDyad(t, sum, ok, "KinshipByLines of the child with itself")
	sum, ok = impl.KinshipByLines(g, child, 1)
	checkNoDyad(t, sum, ok, "KinshipByLines of the child and the first woman")
}

func TestP13KinshipByChance(t *testing.T) {
	r := newChance(155)
	count := map[bool]int{}
	for _, f := range degreeFamilies(t, r, 20) {
		d := degreesOf(f)
		for a := range f.People {
			expectDyad(t, impl.Inbreeding(f, a), d.inbreeding(a), "Inbreeding %v %d", f, a)
			for b := range f.People {
				want, few := d.lines(a, b)
				lines, ok := impl.DescentLines(f, a, b)
				count[few]++
				expect(t, ok && few || !ok && !few && len(lines) == 0, true, "DescentLines %v %d %d succeeds: %v", f, a, b, ok)
				if !slices.EqualFunc(lines, want, slices.Equal) {
					t.Errorf("DescentLines %v %d %d: got %v, want %v", f, a, b, lines, want)
				}
				expectDyad(t, impl.Kinship(f, a, b), d.kinship(a, b), "Kinship %v %d %d", f, a, b)
			}
		}
	}
	if count[true] < 10000 || count[false] < 50 {
		t.Errorf("lines or too many: %v", count)
	}
}

func TestP13KinshipByLinesByChance(t *testing.T) {
	r := newChance(156)
	count := map[bool]int{}
	families := []impl.Family{parse(t, house), twoWays(t), chain(t), ladder(6), manyLines(t)}
	for range 60 {
		families = append(families, inbredFamily(r, 1+r.IntN(impl.MaxPeople)), kinFamily(r, 1+r.IntN(impl.MaxPeople)))
	}
	for _, f := range families {
		d := degreesOf(f)
		for range 40 {
			a, b := r.IntN(len(f.People)), r.IntN(len(f.People))
			want, few := d.byLines(a, b)
			sum, ok := impl.KinshipByLines(f, a, b)
			count[few]++
			expectDyad(t, sum, want, "KinshipByLines %v %d %d", f, a, b)
			expect(t, ok, few, "KinshipByLines %v %d %d succeeds", f, a, b)
		}
	}
	if count[true] < 1000 || count[false] < 50 {
		t.Errorf("few lines or too many: %v", count)
	}
}

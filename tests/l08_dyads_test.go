package tests

import (
	"math/big"
	"testing"

	"loop.example/g03221/impl"
)

func TestP13DegreeConstants(t *testing.T) {
	expect(t, []int{impl.MaxLines, impl.MaxNumerator, impl.MaxExponent}, []int{100, 1073741824, 30}, "limits")
}

// numerators has small numbers and those near powers of two, up to the greatest numerator.
func numerators() []int {
	list := []int{}
	for num := range 70 {
		list = append(list, num)
	}
	for exp := 6; exp <= 30; exp++ {
		list = append(list, 1<<exp-2, 1<<exp-1, 1<<exp, 3<<(exp-2), 1<<exp-1<<(exp/2))
	}
	return list
}

func TestP13DyadOf(t *testing.T) {
	cases := []struct {
		num, exp int
		want     impl.Dyad
	}{
		{0, 0, impl.Dyad{}}, {0, 1, impl.Dyad{}}, {0, 30, impl.Dyad{}},
		{1, 0, impl.Dyad{Num: 1}}, {2, 0, impl.Dyad{Num: 2}}, {2, 1, impl.Dyad{Num: 1}}, {1, 1, impl.Dyad{Num: 1, Exp: 1}},
		{6, 1, impl.Dyad{Num: 3}}, {6, 2, impl.Dyad{Num: 3, Exp: 1}}, {12, 2, impl.Dyad{Num: 3}}, {12, 1, impl.Dyad{Num: 6}},
		{40, 5, impl.Dyad{Num: 5, Exp: 2}}, {1, 30, impl.Dyad{Num: 1, Exp: 30}}, {2, 30, impl.Dyad{Num: 1, Exp: 29}},
		{1073741824, 0, impl.Dyad{Num: 1073741824}}, {1073741824, 30, impl.Dyad{Num: 1}}, {1073741824, 29, impl.Dyad{Num: 2}},
		{1073741823, 30, impl.Dyad{Num: 1073741823, Exp: 30}}, {1073741822, 30, impl.Dyad{Num: 536870911, Exp: 29}},
	}
	for _, c := range cases {
		d, ok := impl.DyadOf(c.num, c.exp)
		expect(t, d, c.want, "DyadOf %d %d", c.num, c.exp)
		expect(t, ok && wantDyad(d), true, "DyadOf %d %d succeeds", c.num, c.exp)
	}
}

func TestP13DyadsOfAllNumbers(t *testing.T) {
	for _, num := range numerators() {
		for exp := range 31 {
			d, ok := impl.DyadOf(num, exp)
			expect(t, ok, true, "DyadOf %d %d succeeds", num, exp)
			expectDyad(t, d, fraction(num, exp), "DyadOf %d %d", num, exp)
			again, ok := impl.DyadOf(d.Num, d.Exp)
			expect(t, ok && again == d, true, "DyadOf the numbers of %v", d)
		}
	}
}

func checkNoDyad(t *testing.T, d impl.Dyad, ok bool, label string, args ...any) {
	t.Helper()
	expect(t, d, impl.Dyad{}, label, args...)
	expect(t, ok, false, label, args...)
}

func TestP13DyadsOutOfBounds(t *testing.T) {
	for _, num := range []int{lowest, lowest + 1, -1073741824, -2, -1, 1073741825, 1073741826, 1 << 31, 1 << 32, 1<<32 + 1, highest} {
		for _, exp := range []int{lowest, -1, 0, 1, 5, 30, 31, highest} {
			d, ok := impl.DyadOf(num, exp)
			checkNoDyad(t, d, ok, "DyadOf %d %d", num, exp)
		}
	}
	for _, exp := range []int{lowest, lowest + 1, -64, -30, -1, 31, 32, 62, 63, 64, 1 << 32, highest} {
		for _, num := range []int{0, 1, 2, 3, 1 << 20, 1073741824} {
			d, ok := impl.DyadOf(num, exp)
			checkNoDyad(t, d, ok, "DyadOf %d %d", num, exp)
		}
	}
}

func TestP13AddDyads(t *testing.T) {
	cases := []struct{ a, b, want impl.Dyad }{
		{impl.Dyad{}, impl.Dyad{}, impl.Dyad{}},
		{impl.Dyad{Num: 1, Exp: 1}, impl.Dyad{Num: 1, Exp: 1}, impl.Dyad{Num: 1}},
		{impl.Dyad{Num: 1, Exp: 2}, impl.Dyad{Num: 1, Exp: 1}, impl.Dyad{Num: 3, Exp: 2}},
		{impl.Dyad{Num: 3, Exp: 3}, impl.Dyad{Num: 1, Exp: 3}, impl.Dyad{Num: 1, Exp: 1}},
		{impl.Dyad{Num: 5}, impl.Dyad{Num: 1, Exp: 4}, impl.Dyad{Num: 81, Exp: 4}},
		{impl.Dyad{}, impl.Dyad{Num: 7, Exp: 30}, impl.Dyad{Num: 7, Exp: 30}},
		{impl.Dyad{Num: 1, Exp: 30}, impl.Dyad{Num: 1, Exp: 30}, impl.Dyad{Num: 1, Exp: 29}},
		{impl.Dyad{Num: 1073741823, Exp: 30}, impl.Dyad{Num: 1, Exp: 30}, impl.Dyad{Num: 1}},
		{impl.Dyad{Num: 1073741824}, impl.Dyad{}, impl.Dyad{Num: 1073741824}},
		{impl.Dyad{Num: 1073741823}, impl.Dyad{Num: 1}, impl.Dyad{Num: 1073741824}},
		{impl.Dyad{Num: 536870912}, impl.Dyad{Num: 536870912}, impl.Dyad{Num: 1073741824}},
		// The sum of the numerators is too large, but not when it is reduced.
		{impl.Dyad{Num: 1073741823, Exp: 1}, impl.Dyad{Num: 1073741823, Exp: 1}, impl.Dyad{Num: 1073741823}},
		{impl.Dyad{Num: 1073741823, Exp: 30}, impl.Dyad{Num: 1073741821, Exp: 30}, impl.Dyad{Num: 536870911, Exp: 28}},
	}
	for _, c := range cases {
		for _, pair := range [][2]impl.Dyad{{c.a, c.b}, {c.b, c.a}} {
			d, ok := impl.AddDyads(pair[0], pair[1])
			expect(t, d, c.want, "AddDyads %v", pair)
			expect(t, ok, true, "AddDyads %v succeeds", pair)
		}
	}
}

func TestP13SumsThatAreTooLarge(t *testing.T) {
	cases := []struct{ a, b impl.Dyad }{
		{impl.Dyad{Num: 1073741824}, impl.Dyad{Num: 1}}, {impl.Dyad{Num: 1073741824}, impl.Dyad{Num: 1073741824}},
		{impl.Dyad{Num: 1073741824}, impl.Dyad{Num: 1, Exp: 1}}, {impl.Dyad{Num: 1073741824}, impl.Dyad{Num: 1, Exp: 30}},
		{impl.Dyad{Num: 1073741824}, impl.Dyad{Num: 1073741823, Exp: 30}}, {impl.Dyad{Num: 1}, impl.Dyad{Num: 1073741823, Exp: 30}},
		{impl.Dyad{Num: 2}, impl.Dyad{Num: 1, Exp: 30}}, {impl.Dyad{Num: 1073741823, Exp: 1}, impl.Dyad{Num: 1073741822}},
		{impl.Dyad{Num: 1073741823, Exp: 1}, impl.Dyad{Num: 1, Exp: 2}}, {impl.Dyad{Num: 536870913}, impl.Dyad{Num: 536870912}},
	}
	for _, c := range cases {
		for _, pair := range [][2]impl.Dyad{{c.a, c.b}, {c.b, c.a}} {
			d, ok := impl.AddDyads(pair[0], pair[1])
			checkNoDyad(t, d, ok, "AddDyads %v", pair)
		}
	}
}

func TestP13SumsOfManyDyads(t *testing.T) {
	list := []impl.Dyad{}
	for i, num := range numerators() {
		d, _ := impl.DyadOf(num, i*7%31)
		list = append(list, d)
	}
	count := map[bool]int{}
	for _, a := range list {
		for _, b := range list {
			want, exists := dyadFor(new(big.Rat).Add(fraction(a.Num, a.Exp), fraction(b.Num, b.Exp)))
			d, ok := impl.AddDyads(a, b)
			count[ok]++
			if exists {
				expect(t, d, want, "AddDyads %v %v", a, b)
				expect(t, ok, true, "AddDyads %v %v succeeds", a, b)
				continue
			}
			checkNoDyad(t, d, ok, "AddDyads %v %v", a, b)
		}
	}
	if count[true] < 1000 || count[false] < 1000 {
		t.Errorf("sums or not: %v", count)
	}
}

func TestP13FormatDyad(t *testing.T) {
	cases := []struct {
		num, exp int
		want     string
	}{
		{0, 0, "0"}, {1, 0, "1"}, {2, 0, "2"}, {10, 0, "10"}, {1073741824, 0, "1073741824"},
		{1, 1, "1/2"}, {3, 1, "3/2"}, {1, 2, "1/4"}, {5, 4, "5/16"}, {25, 3, "25/8"}, {99, 10, "99/1024"},
		{1, 30, "1/1073741824"}, {1073741823, 30, "1073741823/1073741824"}, {1073741823, 1, "1073741823/2"},
	}
	for _, c := range cases {
		expect(t, impl.FormatDyad(impl.Dyad{Num: c.num, Exp: c.exp}), c.want, "FormatDyad %d %d", c.num, c.exp)
	}
}

func TestP13DyadsThatAreNotValid(t *testing.T) {
	for _, d := range notDyads() {
		expect(t, wantDyad(d), false, "the test's own rules: %v", d)
		expect(t, impl.FormatDyad(d), "", "FormatDyad %v", d)
		for _, other := range append(notDyads(), impl.Dyad{}, impl.Dyad{Num: 1, Exp: 1}, impl.Dyad{Num: 1, Exp: 30}) {
			sum, ok := impl.AddDyads(d, other)
			checkNoDyad(t, sum, ok, "AddDyads %v %v", d, other)
			sum, ok = impl.AddDyads(other, d)
			checkNoDyad(t, sum, ok, "AddDyads %v %v", other, d)
		}
	}
}

package number_test

import (
	"math/big"
	"math/rand"
	"strings"
	"testing"

	"scarf/api"
	"scarf/number"
)

// some are right numbers of all sizes.
func some() []api.Number {
	l := []api.Number{
		{}, {Digits: "1"}, {Neg: true, Digits: "1"}, {Digits: "125", Exp: -1}, {Digits: "9", Exp: 2}, {Digits: "99"}, {Digits: "1", Exp: 2}, {Digits: "1", Exp: api.MaxExp},
		{Digits: "1", Exp: -api.MaxExp}, {Neg: true, Digits: "1", Exp: api.MaxExp}, {Neg: true, Digits: "12", Exp: -api.MaxExp},
		{Digits: strings.Repeat("7", api.MaxDigits)}, {Digits: "101", Exp: 3}, {Digits: "11", Exp: 4}, {Digits: "102", Exp: 3},
	}
	r := rand.New(rand.NewSource(2))
	for range 60 {
		d := ""
		for range 1 + r.Intn(3) {
			d += string(rune('0' + r.Intn(10)))
		}
		if d[0] != '0' && d[len(d)-1] != '0' {
			l = append(l, api.Number{Neg: r.Intn(2) == 0, Digits: d, Exp: r.Intn(5) - 2})
		}
	}
	return l
}

// wrong are numbers that are not right.
func wrong() []api.Number {
	return []api.Number{
		{Neg: true}, {Exp: 1}, {Digits: "0"}, {Digits: "01"}, {Digits: "10"}, {Digits: "a"}, {Digits: "1a1"}, {Digits: "-1"}, {Digits: "1é1"},
		{Digits: "1", Exp: api.MaxExp + 1}, {Digits: "1", Exp: -api.MaxExp - 1}, {Digits: "1", Exp: api.MinInt}, {Digits: "1", Exp: api.MaxInt},
		{Digits: strings.Repeat("7", api.MaxDigits+1)}, {Digits: "1\xff1"}, {Digits: "1/1"}, {Digits: "1:1"},
	}
}

func TestRight(t *testing.T) { // P2.1
	for _, n := range some() {
		if !number.Right(n) {
			t.Errorf("%v", n)
		}
	}
	for _, n := range wrong() {
		if number.Right(n) || number.Text(n) != "" {
			t.Errorf("%v: %q", n, number.Text(n))
		}
	}
	for text, n := range map[string]api.Number{
		"0": {}, "125": {Digits: "125"}, "-1e-3": {Neg: true, Digits: "1", Exp: -3}, "1e1000000": {Digits: "1", Exp: api.MaxExp}, "12e1": {Digits: "12", Exp: 1},
	} {
		if s := number.Text(n); s != text {
			t.Errorf("%v: %q", n, s)
		}
	}
}

func TestParse(t *testing.T) { // P2.2
	nines := strings.Repeat("9", api.MaxDigits)
	for s, want := range map[string]string{
		"12.50e1": "125", "-0.0": "0", "0": "0", "-0": "0", "100": "1e2", "1e5": "1e5", "1E+5": "1e5", "1e-5": "1e-5", "0.001": "1e-3", "-10.10": "-101e-1",
		"1e000000000000000001": "1e1", "1e0": "1", "1e-0": "1", "0e999999999": "0", "0e-999999999": "0", "0.00e5": "0", "1.0e1000000": "1e1000000", "10e999999": "1e1000000",
		"0.1e1000001": "1e1000000", "1e-1000000": "1e-1000000", "10e-1000001": "1e-1000000", nines: nines, "0." + nines[1:]: nines[1:] + "e-999", "1" + strings.Repeat("0", 999): "1e999",
		nines + "e1234": nines + "e1234",
	} {
		n, err := number.Parse(s)
		if got := number.Text(n); got != want || err != api.OK || !number.Right(n) {
			t.Errorf("%q: %q, %d, not %q", s, got, err, want)
		}
	}
	for s, want := range map[string]api.Errno{
		"": api.ErrForm, "-": api.ErrForm, "01": api.ErrForm, "-01": api.ErrForm, "+1": api.ErrForm, ".5": api.ErrForm, "1.": api.ErrForm, "1.e1": api.ErrForm, "1e": api.ErrForm,
		"1e+": api.ErrForm, "1e1.0": api.ErrForm, "1 ": api.ErrForm, " 1": api.ErrForm, "0x1": api.ErrForm, "1e1e1": api.ErrForm, "--1": api.ErrForm, "1.2.3": api.ErrForm, "00": api.ErrForm,
		"1e--1": api.ErrForm, "1e+-1": api.ErrForm, "NaN": api.ErrForm, "１": api.ErrForm, "1\xff": api.ErrForm, "-.1": api.ErrForm, "1f1": api.ErrForm,
		nines + "9": api.ErrLong, "0." + nines: api.ErrLong, nines + "9e9999999999": api.ErrLong, nines + "9x": api.ErrForm,
		"1e9999999999": api.ErrNum, "0e1000000000": api.ErrNum, "1e-1000000000": api.ErrNum, "1e1000001": api.ErrNum, "10e1000000": api.ErrNum, "0.1e-1000000": api.ErrNum, "1e999999999": api.ErrNum,
		"1e0009999999999": api.ErrNum,
	} {
		if n, err := number.Parse(s); err != want || n != (api.Number{}) {
			t.Errorf("%.20q: %v, %d, not %d", s, n, err, want)
		}
	}
}

func TestTextAndBack(t *testing.T) { // P2.5
	for _, n := range some() {
		if m, err := number.Parse(number.Text(n)); m != n || err != api.OK {
			t.Errorf("%v: %v, %d", n, m, err)
		}
	}
}

// rat is a number as a fraction.
func rat(n api.Number) *big.Rat {
	r, _ := new(big.Rat).SetString(number.Text(n))
	return r
}

func TestCompare(t *testing.T) { // P2.3, P2.6
	all := some()
	for _, a := range all {
		for _, b := range all {
			if max(a.Exp, -a.Exp, b.Exp, -b.Exp) > 1000 {
				continue
			}
			if got, want := number.Compare(a, b), rat(a).Cmp(rat(b)); got != want {
				t.Errorf("%v, %v: %d", a, b, got)
			}
		}
		for _, w := range wrong() {
			if number.Compare(a, w) != 1 || number.Compare(w, a) != -1 {
				t.Errorf("%v, %v", a, w)
			}
		}
	}
	for _, a := range wrong() {
		for _, b := range wrong() {
			if number.Compare(a, b) != 0 {
				t.Errorf("%v, %v", a, b)
			}
		}
	}
	rise := []string{"-1e1000000", "-10", "-9", "-1e-1000000", "0", "1e-1000000", "0.5", "9", "99", "1e2", "101", "1.02e2", "1e999999", "1e1000000"}
	for i, a := range rise {
		for j, b := range rise {
			x, _ := number.Parse(a)
			y, _ := number.Parse(b)
			want := 0
			if i < j {
				want = -1
			} else if i > j {
				want = 1
			}
			if got := number.Compare(x, y); got != want {
				t.Errorf("%s, %s: %d", a, b, got)
			}
		}
	}
	ints := []int{api.MinInt, api.MinInt + 1, -100, -99, -10, -1, 0, 1, 2, 9, 10, 99, 100, 1000, api.MaxInt - 1, api.MaxInt}
	for i, a := range ints {
		for j, b := range ints {
			want := 0
			if i < j {
				want = -1
			} else if i > j {
				want = 1
			}
			if got := number.Compare(number.Of(a), number.Of(b)); got != want {
				t.Errorf("%d, %d: %d", a, b, got)
			}
		}
	}
}

func TestInts(t *testing.T) { // P2.4
	for n, want := range map[int]api.Number{
		0: {}, 7: {Digits: "7"}, -10: {Neg: true, Digits: "1", Exp: 1}, 1200: {Digits: "12", Exp: 2},
		api.MaxInt: {Digits: "9223372036854775807"}, api.MinInt: {Neg: true, Digits: "9223372036854775808"},
	} {
		if got := number.Of(n); got != want {
			t.Errorf("%d: %v", n, got)
		}
		if back, ok := number.Int(want); back != n || !ok {
			t.Errorf("%v: %d, %v", want, back, ok)
		}
	}
	for _, s := range []string{"0.5", "1e-1", "9223372036854775808", "-9223372036854775809", "1e19", "1e1000000", "-1e1000000", "10000000000000000001"} {
		n, err := number.Parse(s)
		if k, ok := number.Int(n); k != 0 || ok || err != api.OK {
			t.Errorf("%s: %d, %v, %d", s, k, ok, err)
		}
	}
	for _, n := range wrong() {
		if k, ok := number.Int(n); k != 0 || ok {
			t.Errorf("%v: %d, %v", n, k, ok)
		}
	}
	if k, ok := number.Int(api.Number{Digits: "9", Exp: 18}); k != 9000000000000000000 || !ok {
		t.Errorf("9e18: %d, %v", k, ok)
	}
}

func TestNothingTurned(t *testing.T) { // P2.7
	for _, l := range [][]string{{"1", "1.0", "1.000", "10e-1", "0.1e1", "100E-2", "1e00", "1e-0"}, {"-12.5", "-125e-1", "-0.125e2", "-12.50000"}, {"0", "-0", "0.0", "0e7", "-0.00e-7"}} {
		a, _ := number.Parse(l[0])
		for _, s := range l {
			if b, err := number.Parse(s); b != a || err != api.OK || number.Compare(a, b) != 0 {
				t.Errorf("%s: %v, %d", s, b, err)
			}
		}
	}
}

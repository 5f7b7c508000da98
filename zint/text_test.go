package zint_test

import (
	"strings"
	"testing"

	"cleaver/api"
	"cleaver/zint"
)

// P2.5

func TestText(t *testing.T) {
	for _, c := range []struct {
		a  api.Int
		is string
	}{
		{api.Int{}, "0"}, {api.Int{Neg: true}, "0"}, {api.Int{Neg: true, Abs: []uint64{0, 0}}, "0"},
		{api.Int{Neg: true, Abs: []uint64{7, 0}}, "-7"}, {zint.Of(-10), "-10"},
		{api.Int{Neg: true, Abs: []uint64{0, 1}}, "-18446744073709551616"}, {api.Int{Abs: []uint64{most}}, "18446744073709551615"},
	} {
		if is := zint.Text(c.a); is != c.is {
			t.Errorf("Text(%v): %s", c.a, is)
		}
	}
	pairs(func(a, b api.Int) {
		if is := zint.Text(a); is != value(a).String() {
			t.Errorf("Text(%v): %s", a, is)
		}
	})
}

func TestParse(t *testing.T) {
	for _, s := range []string{
		"0", "1", "-1", "10", "-10", "9223372036854775807", "-9223372036854775808", "18446744073709551616", "-18446744073709551616",
		strings.Repeat("9", 4095), strings.Repeat("9", 4096), "-" + strings.Repeat("9", 4095), "-" + strings.Repeat("9", 4096),
		"-1" + strings.Repeat("0", 4095),
	} {
		a, e := zint.Parse(s)
		if e != api.OK || value(a).String() != s {
			t.Errorf("Parse(%.40q): %v", s, e)
		}
		want(t, "Parse", a, value(a))
	}
}

func TestParseRefuses(t *testing.T) {
	for _, s := range []string{
		"", "-", "--", "--1", "-0", "-00", "-01", "00", "01", "+1", "+", "-+1", "+-1", " 1", "- 1", " -1", "-1 ", "1-", "1-1", "-1-", "-a", "-1a", "0-",
		"\u22121", "\uff0d1", "-\u0661", "-1\x00", "\x00", "-\xff", "0x1", "-0x1", "1e3", "-1.0", "1_000", "-1/2", "(1)",
		strings.Repeat("9", 4097), "-" + strings.Repeat("9", 4097), "-1" + strings.Repeat("0", 4096),
		"-" + strings.Repeat("0", 4095), "-0" + strings.Repeat("1", 4095), strings.Repeat("-", 4096), "-" + strings.Repeat("9", 4095) + "-",
	} {
		if a, e := zint.Parse(s); e != api.ErrText || !isNought(a) {
			t.Errorf("Parse(%.40q): %v, %v", s, a, e)
		}
	}
}

// Each single byte ahead of, behind and between the digits is refused, unless it is a digit or the sign ahead.
func TestParseBytes(t *testing.T) {
	for c := range 256 {
		b := string([]byte{byte(c)})
		digit := c >= '0' && c <= '9'
		for _, k := range []struct {
			s  string
			ok bool
		}{
			{b, digit}, {b + "5", digit && c != '0' || c == '-'}, {"5" + b, digit}, {"5" + b + "5", digit},
			{"-" + b, digit && c != '0'}, {"-5" + b, digit}, {"-" + b + "5", digit && c != '0'},
		} {
			if _, e := zint.Parse(k.s); (e == api.OK) != k.ok || e != api.OK && e != api.ErrText {
				t.Errorf("Parse(%q): %v", k.s, e)
			}
		}
	}
}

package slate_test

import (
	"strings"
	"testing"

	"quietus/api"
	"quietus/slate"
)

// mixed is 7, nothing, yes, no, 0.
func mixed() *slate.Slate {
	s := slate.New()
	s.AddNum(7)
	s.AddNone()
	s.AddTruth(true)
	s.AddTruth(false)
	s.AddNum(0)
	return s
}

// panics tells whether MustNum does.
func panics(s *slate.Slate, i int) (did bool) {
	defer func() { did = recover() != nil }()
	s.MustNum(i)
	return false
}

// P13.1: each sort is told from the others.
func TestSorts(t *testing.T) {
	s := mixed()
	sorts := "nobbn"
	nums, truths := []uint64{7, 0, 0, 0, 0}, []bool{false, false, true, false, false}
	for i := -2; i < 8; i++ {
		sort := byte('?')
		var wantNum uint64
		var wantTruth bool
		if i >= 0 && i < len(sorts) {
			sort, wantNum, wantTruth = sorts[i], nums[i], truths[i]
		}
		if n, ok := s.Num(i); ok != (sort == 'n') || n != wantNum {
			t.Error(i, n, ok)
		}
		if b, ok := s.Truth(i); ok != (sort == 'b') || b != wantTruth {
			t.Error(i, b, ok)
		}
		if s.None(i) != (sort == 'o') {
			t.Error(i, "none")
		}
		if panics(s, i) != (sort != 'n') {
			t.Error(i, "must")
		}
		if sort == 'n' && s.MustNum(i) != wantNum {
			t.Error(i, s.MustNum(i))
		}
	}
	if s.Len() != 5 || slate.New().Len() != 0 || !panics(slate.New(), 0) {
		t.Error(s.Len())
	}
}

// P13.1: no more than MaxEmits.
func TestFull(t *testing.T) {
	s := slate.New()
	for range api.MaxEmits {
		if !s.AddNum(3) {
			t.Error("room")
		}
	}
	if s.AddNum(3) || s.AddTruth(true) || s.AddNone() || s.Len() != api.MaxEmits {
		t.Error("no room", s.Len())
	}
	s.Cut(api.MaxEmits - 1)
	if !s.AddNone() || s.AddNone() {
		t.Error("room of one")
	}
}

// P13.1: Cut and Copy.
func TestCutCopy(t *testing.T) {
	for n, want := range map[int]string{-5: "", 0: "", 2: "7 none", 5: "7 none yes no 0", 9: "7 none yes no 0", 1 << 60: "7 none yes no 0", -1 << 63: ""} {
		s := mixed()
		s.Cut(n)
		if s.Text() != want {
			t.Error(n, s.Text())
		}
	}
	a := mixed()
	b := a.Copy()
	if !slate.Same(a, b) {
		t.Error("a copy is the same")
	}
	a.Cut(1)
	a.AddNum(99)
	if b.Text() != "7 none yes no 0" || a.Text() != "7 99" {
		t.Error(a.Text(), b.Text())
	}
	c := a.Copy()
	c.AddNum(1)
	a.AddNum(2)
	if c.Text() != "7 99 1" || a.Text() != "7 99 2" {
		t.Error(a.Text(), c.Text())
	}
}

// P13.2: Text and Read are each other's way back.
func TestTextRead(t *testing.T) {
	for _, text := range []string{"", "0", "none", "yes", "no", "7 none yes", "18446744073709551615", "10 no no none 0", strings.TrimSuffix(strings.Repeat("no ", 16), " ")} {
		s, ok := slate.Read(text)
		if !ok || s.Text() != text {
			t.Errorf("%q", text)
		}
	}
	s, _ := slate.Read("5 yes none")
	if n, ok := s.Num(0); n != 5 || !ok {
		t.Error(n)
	}
	if b, ok := s.Truth(1); !b || !ok || !s.None(2) {
		t.Error(b)
	}
	for _, text := range []string{
		" ", " 7", "7 ", "7  8", "07", "00", "-1", "+1", "18446744073709551616", "99999999999999999999", "maybe", "Yes", "yesno", "7\t8", "7\n", "7,8", "1_000", "0x1", "\u0663", "\xff", "7 \xff", "7\u00a08", "nil",
		strings.TrimSuffix(strings.Repeat("no ", 17), " "),
	} {
		if s, ok := slate.Read(text); ok || s != nil {
			t.Errorf("%q", text)
		}
	}
}

// P13.2: Same.
func TestSame(t *testing.T) {
	texts := []string{"", "0", "1", "no", "yes", "none", "0 0", "0 1", "1 0", "none none"}
	for i, x := range texts {
		for j, y := range texts {
			a, _ := slate.Read(x)
			b, _ := slate.Read(y)
			if slate.Same(a, b) != (i == j) {
				t.Error(x, y)
			}
		}
	}
	none, _ := slate.Read("?")
	if slate.Same(none, slate.New()) || slate.Same(slate.New(), none) || !slate.Same(none, none) {
		t.Error("what Read refused")
	}
}

package digits_test

import (
	"strconv"
	"testing"

	"quietus/digits"
)

func TestRead(t *testing.T) {
	for _, most := range []uint64{0, 3, 7, 10, 99, 255, 9999, 1<<31 - 1, 1<<64 - 1} {
		for _, n := range []uint64{0, 1, 3, 4, 7, 8, 9, 10, 11, 99, 100, 255, 256, 9999, 10000, 1<<31 - 1, 1 << 31, 1<<64 - 2, 1<<64 - 1} {
			got, ok := digits.Read(strconv.FormatUint(n, 10), most)
			if ok != (n <= most) || ok && got != n || !ok && got != 0 {
				t.Error(n, most, got, ok)
			}
		}
	}
	for _, s := range []string{"", "00", "01", "+1", "-1", " 1", "1 ", "1_0", "0x1", "a", "1a", "\u0661", "1\xff", "18446744073709551616", "99999999999999999999", "184467440737095516150"} {
		if got, ok := digits.Read(s, 1<<64-1); ok || got != 0 {
			t.Error(s, got)
		}
	}
}

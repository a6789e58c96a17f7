package vm_test

import (
	"fmt"
	"math"
	"math/big"
	"strings"
	"testing"

	"larder/api"
)

// edges: numbers at which something may go otherwise.
var edges = []int64{math.MinInt64, math.MinInt64 + 1, math.MinInt64 / 2, -1 << 32, -3037000500, -10, -7, -3, -2, -1, 0, 1, 2, 3, 7, 10, 3037000499, 3037000500, 1 << 32, math.MaxInt64 / 2, math.MaxInt64/2 + 1, math.MaxInt64 - 1, math.MaxInt64}

// TestWorks: P25.2: each sum, difference, product, quotient, rest and comparison at the edges.
func TestWorks(t *testing.T) {
	for _, name := range strings.Fields("add sub mul div rem eq ne lt le gt ge") {
		for _, x := range edges {
			for _, y := range edges {
				p := &plain{}
				p.work(name, big.NewInt(x), big.NewInt(y))
				want := out(1, api.ErrZero)
				if p.left.Err == api.OK {
					want = out(1, api.OK, p.stack[0].String())
				}
				leaves(t, "P25.2", fmt.Sprintf("0 0; tick; push %d; push %d; %s; print 1", x, y, name), usual(), want)
			}
		}
	}
}

// TestByHand: P25.2: some of them, written out.
func TestByHand(t *testing.T) {
	const least, most = "-9223372036854775808", "9223372036854775807"
	for _, row := range []struct{ work, want string }{
		{"push " + most + "; push 1; add", least},
		{"push " + least + "; push -1; add", most},
		{"push " + least + "; push " + least + "; add", "0"},
		{"push " + least + "; push 1; sub", most},
		{"push 0; push " + least + "; sub", least},
		{"push " + most + "; push " + most + "; mul", "1"},
		{"push " + least + "; push -1; mul", least},
		{"push 4294967296; push 4294967296; mul", "0"},
		{"push 3037000500; push 3037000500; mul", "-9223372036709301616"},
		{"push " + least + "; push -1; div", least},
		{"push " + least + "; push -1; rem", "0"},
		{"push 7; push 2; div", "3"}, {"push -7; push 2; div", "-3"}, {"push 7; push -2; div", "-3"}, {"push -7; push -2; div", "3"},
		{"push 7; push 2; rem", "1"}, {"push -7; push 2; rem", "-1"}, {"push 7; push -2; rem", "1"}, {"push -7; push -2; rem", "-1"},
		{"push 0; push 5; div", "0"}, {"push 1; push 2; div", "0"}, {"push -1; push 2; div", "0"}, {"push -1; push 2; rem", "-1"},
		{"push " + least + "; push 10; rem", "-8"}, {"push " + least + "; push " + least + "; div", "1"},
		{"push " + least + "; neg", least}, {"push " + most + "; neg", "-9223372036854775807"}, {"push 0; neg", "0"}, {"push -5; neg", "5"},
		{"push 0; not", "1"}, {"push 1; not", "0"}, {"push -1; not", "0"}, {"push 2; not", "0"}, {"push " + least + "; not", "0"}, {"push 4294967296; not", "0"},
		{"push 1; push 2; lt", "1"}, {"push 2; push 1; lt", "0"}, {"push 2; push 2; lt", "0"}, {"push 2; push 2; le", "1"}, {"push 3; push 2; le", "0"},
		{"push 3; push 2; gt", "1"}, {"push 2; push 3; gt", "0"}, {"push 2; push 2; ge", "1"}, {"push 1; push 2; ge", "0"},
		{"push " + least + "; push " + most + "; lt", "1"}, {"push " + most + "; push " + least + "; lt", "0"}, {"push -1; push 1; gt", "0"},
		{"push 5; push 5; eq", "1"}, {"push 5; push -5; eq", "0"}, {"push 5; push 5; ne", "0"}, {"push 5; push 4; ne", "1"},
	} {
		leaves(t, "P25.2", "0 0; "+row.work+"; print 1", usual(), out(0, api.OK, row.want))
	}
}

// TestZero: P25.2, P25.3: a division by zero ends the run, whatever is divided; what comes behind it is not done.
func TestZero(t *testing.T) {
	for _, x := range edges {
		for _, name := range []string{"div", "rem"} {
			leaves(t, "P25.2", fmt.Sprintf("0 0; tick; print 0; push 5; push %d; push 0; %s; tick; print 2; print 0", x, name), usual(), out(1, api.ErrZero, ""))
		}
	}
}

// TestPush: P25.2: every number as it is, in decimal.
func TestPush(t *testing.T) {
	for _, x := range edges {
		leaves(t, "P25.2", fmt.Sprintf("0 0; push %d; print 1", x), usual(), out(0, api.OK, fmt.Sprint(x)))
	}
	for _, row := range [][2]string{{"-0", "0"}, {"007", "7"}, {"-010", "-10"}} {
		leaves(t, "P25.2", "0 0; push "+row[0]+"; print 1", usual(), out(0, api.OK, row[1]))
	}
}

// TestVariables: P25.2: a store is seen by the loads behind it, of that variable alone.
func TestVariables(t *testing.T) {
	leaves(t, "P25.2", "3 0; push 5; store 1; load 0; load 1; load 2; print 3; load 1; store 2; push -6; store 1; load 0; load 1; load 2; print 3", usual(), out(0, api.OK, "0 5 0", "0 -6 5"))
	leaves(t, "P25.2", "2 0; push 1; push 2; store 0; store 1; load 0; load 1; print 2", usual(), out(0, api.OK, "2 1"))
	leaves(t, "P25.2", "1 0; load 0; push 1; store 0; load 0; print 2", usual(), out(0, api.OK, "0 1"))
	lines, want := "30 0", []string{}
	for i := range 30 {
		lines += fmt.Sprintf("; push %d; store %d", i*i, i)
	}
	for i := range 30 {
		lines += fmt.Sprintf("; load %d; print 1", 29-i)
		want = append(want, fmt.Sprint((29-i)*(29-i)))
	}
	leaves(t, "P25.2", lines, usual(), out(0, api.OK, want...))
}

// TestPrint: P25.2: none, one, several; the uppermost stands last; what lies lower stays.
func TestPrint(t *testing.T) {
	leaves(t, "P25.2", "0 0; print 0", usual(), out(0, api.OK, ""))
	leaves(t, "P25.2", "0 0; print 0; print 0; push 1; print 1; print 0", usual(), out(0, api.OK, "", "", "1", ""))
	leaves(t, "P25.2", "0 0; push 1; push 2; push 3; push 4; print 0; print 2; push 5; print 3", usual(), out(0, api.OK, "", "3 4", "1 2 5"))
	lines, want := "0 0", []string{}
	for i := range 3000 {
		lines += fmt.Sprint("; push ", i-1500)
		want = append(want, fmt.Sprint(i-1500))
	}
	leaves(t, "P25.2", lines+"; print 3000", usual(), out(0, api.OK, strings.Join(want, " ")))
}

// TestJumps: P25.2: on to a place, be it the next, the end or one behind; zero takes just 0.
func TestJumps(t *testing.T) {
	leaves(t, "P25.2", "0 0; jump 2; print 0; push 1; print 1", usual(), out(0, api.OK, "1"))
	leaves(t, "P25.2", "0 0; jump 1; jump 4; print 0; print 0", usual(), out(0, api.OK))
	leaves(t, "P25.2", "0 0; print 0; jump 3; print 0", usual(), out(0, api.OK, ""))
	for _, x := range edges {
		want := out(0, api.OK, "8", "9")
		if x == 0 {
			want = out(0, api.OK, "9")
		}
		leaves(t, "P25.2", fmt.Sprintf("0 0; push 9; push %d; zero 5; push 8; print 1; print 1", x), usual(), want)
		leaves(t, "P25.2", fmt.Sprintf("0 0; push %d; zero 2; print 0", x), usual(), out(0, api.OK, ""))
	}
	leaves(t, "P25.2", "1 0; push 3; store 0; tick; load 0; zero 11; load 0; push 1; sub; store 0; print 0; jump 2", usual(), out(4, api.OK, "", "", ""))
	leaves(t, "P25.2", "0 0; push 5; tick; push 6; print 2; jump 5", usual(), out(1, api.OK, "5 6"))
}

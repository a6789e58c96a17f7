package vm_test

import (
	"testing"

	"larder/api"
)

func TestExamples(t *testing.T) {
	leaves(t, "P25.2", "0 0", usual(), out(0, api.OK))
	leaves(t, "P25.2", "1 0; tick; push 1; push 2; add; store 0; tick; load 0; print 1", usual(), out(2, api.OK, "3"))
	leaves(t, "P25.2", "0 0; tick; print 0; tick; push -5; push 2; div; push -5; push 2; rem; print 2", usual(), out(2, api.OK, "", "-2 -1"))
	leaves(t, "P25.2", "0 0; tick; push 1; print 1; tick; push 1; push 0; rem; print 1", usual(), out(2, api.ErrZero, "1"))
	leaves(t, "P25.2", "0 0; push 9223372036854775807; push 1; add; push -9223372036854775808; push -1; div; print 2", usual(), out(0, api.OK, "-9223372036854775808 -9223372036854775808"))
	leaves(t, "P25.5", "0 0; tick; jump 0", fuelled(3), out(3, api.ErrFuel))
	leaves(t, "P25.5", "0 0; tick; jump 0", fuelled(-7), out(0, api.ErrFuel))
	maps := "0 1; push 5; push 7; put 0; push 5; get 0; push 6; get 0; push 5; has 0; len 0; print 4"
	leaves(t, "P25.2", maps, usual(), out(0, api.OK, "7 0 1 1"))
	leaves(t, "P25.2", maps, limited(100), out(0, api.ErrMemory))
	leaves(t, "P25.1", maps, limited(63), out(0, api.ErrMemory))
	leaves(t, "P25.1", maps, limited(-1), out(0, api.ErrLimit))
	leaves(t, "P25.1", "2 1; push 5; push 7; put 0; open 0; tick; next 10; store 1; store 0; tick; jump 11; jump 14; load 0; load 1; print 2", usual(), out(0, api.ErrCode))
	leaves(t, "P25.1", "0 0; add", usual(), out(0, api.ErrCode))
	leaves(t, "P25.1", "0 0; push 1", limited(-1), out(0, api.ErrCode))
	leaves(t, "P25.2", "2 1; push 5; push 7; put 0; open 0; tick; next 12; store 1; store 0; load 0; load 1; print 2; jump 4", usual(), out(2, api.OK, "5 7"))
}

package rules

import (
	"testing"

	"sculler/api"
	"sculler/timer"
	"sculler/word"
)

func TestLimits(t *testing.T) {
	for _, c := range []struct {
		name      string
		got, want int
	}{
		{"MaxNum", api.MaxNum, 1 << 53},
		{"MaxSegs", api.MaxSegs, 16},
		{"MaxWords", api.MaxWords, 4096},
		{"Chunk", api.Chunk, 64},
		{"InChunk", api.InChunk, 8},
		{"MaxChunk", api.MaxChunk, 512},
		{"MaxDepth", api.MaxDepth, 32},
		{"MaxCost", api.MaxCost, 8192},
		{"MaxPath", api.MaxPath, 32},
		{"MaxTimer", api.MaxTimer, 1000},
		{"PerPage", api.PerPage, 4},
		{"MaxRetry", api.MaxRetry, 1000},
		{"MaxBack", api.MaxBack, 64},
		{"MaxWin", api.MaxWin, 64},
		{"MaxTick", api.MaxTick, 1 << 40},
		{"MaxGram", api.MaxGram, 200},
	} {
		if c.got != c.want {
			t.Errorf("%s is %d, want %d", c.name, c.got, c.want)
		}
	}
}

func TestWordEndsAtMaxNum(t *testing.T) {
	if got := word.Ceil(api.MaxNum, 1); got != api.MaxNum {
		t.Errorf("Ceil(MaxNum, 1) = %d", got)
	}
	if got := word.Ceil(api.MaxNum+1, 1); got != 0 {
		t.Errorf("Ceil(MaxNum + 1, 1) = %d", got)
	}
}

func TestTimerEndsAtMaxTimer(t *testing.T) {
	q := timer.New()
	for key := range api.MaxTimer {
		if !q.Set(key, 0) {
			t.Fatalf("Set of key %d is false", key)
		}
	}
	if q.Set(api.MaxTimer, 0) {
		t.Error("there are more than MaxTimer keys")
	}
}

func TestErrors(t *testing.T) {
	for _, c := range []struct {
		got  api.Errno
		want uint16
	}{
		{api.OK, 0}, {api.ErrArg, 1}, {api.ErrLong, 3}, {api.ErrShort, 10},
		{api.ErrForm, 11}, {api.ErrSum, 12}, {api.ErrBounds, 20}, {api.ErrDepth, 21},
		{api.ErrCost, 22}, {api.ErrKind, 23}, {api.ErrFull, 24}, {api.ErrNotYet, 30},
		{api.ErrQuota, 31}, {api.ErrSession, 32}, {api.ErrRetry, 33}, {api.ErrCancel, 34},
		{api.ErrNone, 40},
	} {
		if uint16(c.got) != c.want {
			t.Errorf("%v is not %d", c.got, c.want)
		}
	}
}

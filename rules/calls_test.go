package rules

import (
	"sculler/api"
	"sculler/arena"
	"sculler/bits"
	"sculler/bound"
	"sculler/build"
	"sculler/crc"
	"sculler/keep"
	"sculler/mani"
	"sculler/net"
	"sculler/pack"
	"sculler/part"
	"sculler/play"
	"sculler/ptr"
	"sculler/read"
	"sculler/recv"
	"sculler/send"
	"sculler/sim"
	"sculler/span"
	"sculler/timer"
	"sculler/token"
	"sculler/tree"
	"sculler/valid"
	"sculler/word"
)

// The calls that the chapters list: with any other signature this file does not compile.
var (
	_ func(uint64, int) []byte        = word.Put
	_ func([]byte) uint64             = word.Get
	_ func(int, int, int) (int, bool) = word.Add
	_ func(int, int, int) (int, bool) = word.Mul
	_ func(int, int) int              = word.Ceil
	_ func(uint64, int) int           = word.Signed

	_ func(uint32) uint32                       = crc.Step
	_ func() *[256]uint32                       = crc.Table
	_ func(*[256]uint32, uint32, []byte) uint32 = crc.More
	_ func([]byte) uint32                       = crc.Sum
	_ func([]byte) []byte                       = crc.Seal
	_ func([]byte) bool                         = crc.Right

	_ func(int) []byte            = bits.Make
	_ func([]byte, int) bool      = bits.Get
	_ func([]byte, int) []byte    = bits.Set
	_ func([]byte) int            = bits.Count
	_ func([]byte, int) int       = bits.First
	_ func([]byte, int) bool      = bits.Right
	_ func([]byte, []byte) []byte = bits.Or
	_ func([]byte, []byte) bool   = bits.Within

	_ func([]api.Span) []api.Span           = span.Norm
	_ func([]api.Span) bool                 = span.Right
	_ func([]api.Span, api.Span) bool       = span.Has
	_ func([]api.Span, api.Span) []api.Span = span.Holes
	_ func([]byte) []api.Span               = span.Of
	_ func([]api.Span) int                  = span.Long

	_ func() *timer.Queue                 = timer.New
	_ func(*timer.Queue, int, int) bool   = (*timer.Queue).Set
	_ func(*timer.Queue, int) bool        = (*timer.Queue).Drop
	_ func(*timer.Queue, int) (int, bool) = (*timer.Queue).At
	_ func(*timer.Queue, int) []int       = (*timer.Queue).Due
	_ func(*timer.Queue) (int, int, bool) = (*timer.Queue).Next
	_ func(*timer.Queue) int              = (*timer.Queue).Len

	_ func(uint64) (api.Ptr, api.Errno) = ptr.Decode
	_ func(api.Ptr) (uint64, api.Errno) = ptr.Encode
	_ func(api.Ptr) (int, api.Errno)    = ptr.Words

	_ func(api.Arena) bool                          = arena.Right
	_ func(api.Arena) []int                         = arena.Sizes
	_ func(api.Arena) int                           = arena.Words
	_ func([]int) bool                              = arena.Fits
	_ func(api.Arena, int, int) (uint64, api.Errno) = arena.Word
	_ func([]int, int, int, int) bool               = arena.Within
	_ func(api.Arena) []byte                        = arena.Bytes
	_ func([]int, []byte) (api.Arena, api.Errno)    = arena.Cut
	_ func([]int, int, int) int                     = arena.Place
	_ func(api.Arena, api.Arena) bool               = arena.Same

	_ func(api.Node) bool                        = build.Right
	_ func(api.Node) int                         = build.Need
	_ func(api.Node, int) (api.Arena, api.Errno) = build.Build
	_ func(api.Node, api.Node) bool              = build.Same

	_ func(read.Source, int, int) (api.Obj, api.Errno)        = read.Follow
	_ func(api.Obj) int                                       = read.Words
	_ func(read.Source, api.Path, int) (api.Value, api.Errno) = read.Walk
	_ func(api.Arena, api.Path, int) (api.Value, api.Errno)   = read.Of
	_ func(api.Arena) read.Source                             = read.Whole

	_ func(api.Arena) (api.Node, api.Errno)           = tree.Decode
	_ func(api.Node, api.Path) (api.Value, api.Errno) = tree.Ask
	_ func(api.Node, int) []api.Path                  = tree.Paths
	_ func(api.Node) int                              = tree.Cost

	_ func(api.Arena) api.Errno                         = valid.Check
	_ func(api.Arena) (api.Arena, api.Errno)            = valid.Canon
	_ func(api.Arena, api.Arena) bool                   = valid.Equal
	_ func(api.Arena, api.Path) ([]api.Span, api.Errno) = valid.Touched

	_ func(uint64, api.Arena) (api.Manifest, api.Errno) = mani.Of
	_ func(api.Manifest) bool                           = mani.Right
	_ func(api.Manifest, api.Arena) bool                = mani.Matches
	_ func(api.Manifest) int                            = mani.Words
	_ func(api.Manifest) int                            = mani.Chunks
	_ func(api.Manifest) int                            = mani.Pages
	_ func(api.Manifest, int) int                       = mani.Size
	_ func(api.Arena, int) []byte                       = mani.Chunk
	_ func(api.Manifest, int) []int                     = mani.Page
	_ func([][]int) ([]int, bool)                       = mani.Join
	_ func(api.Manifest, api.Manifest) bool             = mani.Same

	_ func(api.Gram) ([]byte, api.Errno) = pack.Encode
	_ func([]byte) (api.Gram, api.Errno) = pack.Parse
	_ func(api.Gram, api.Gram) bool      = pack.Same

	_ func(api.Token) bool                = token.Right
	_ func(api.Token) ([]byte, api.Errno) = token.Encode
	_ func([]byte) (api.Token, api.Errno) = token.Decode
	_ func(api.Token, api.Token) bool     = token.Same

	_ func() *keep.Store                    = keep.New
	_ func(*keep.Store, int, []byte) bool   = (*keep.Store).Put
	_ func(*keep.Store, api.Token) bool     = (*keep.Store).Save
	_ func(*keep.Store)                     = (*keep.Store).Clear
	_ func(*keep.Store)                     = (*keep.Store).Flush
	_ func(*keep.Store, ...bool)            = (*keep.Store).Crash
	_ func(*keep.Store, int) ([]byte, bool) = (*keep.Store).Get
	_ func(*keep.Store) (api.Token, bool)   = (*keep.Store).Token
	_ func(*keep.Store) []byte              = (*keep.Store).Held
	_ func(*keep.Store) int                 = (*keep.Store).Loose
	_ func(*keep.Store) *keep.Store         = (*keep.Store).Copy

	_ func(api.Manifest) (*part.Part, api.Errno)        = part.New
	_ func(*part.Part, int, []byte) bool                = (*part.Part).Put
	_ func(*part.Part) []byte                           = (*part.Part).Known
	_ func(*part.Part) (api.Arena, bool)                = (*part.Part).Whole
	_ func(*part.Part, api.Path) (api.Value, api.Errno) = (*part.Part).Read
	_ func(*part.Part) api.Manifest                     = (*part.Part).Manifest
	_ func(*part.Part) int                              = (*part.Part).Bytes

	_ func(api.Config) bool                                         = send.Right
	_ func(uint64, api.Arena, api.Config) (*send.Sender, api.Errno) = send.New
	_ func(*send.Sender, int) []api.Gram                            = (*send.Sender).Tick
	_ func(*send.Sender, api.Gram) []api.Gram                       = (*send.Sender).Take
	_ func(*send.Sender) []api.Gram                                 = (*send.Sender).Cancel
	_ func(*send.Sender) api.Status                                 = (*send.Sender).Status
	_ func(*send.Sender) api.Manifest                               = (*send.Sender).Manifest
	_ func(*send.Sender) int                                        = (*send.Sender).Waits

	_ func(api.Config, *keep.Store) (*recv.Receiver, api.Errno) = recv.New
	_ func(*recv.Receiver, int) []api.Gram                      = (*recv.Receiver).Tick
	_ func(*recv.Receiver, api.Gram) []api.Gram                 = (*recv.Receiver).Take
	_ func(*recv.Receiver) []api.Gram                           = (*recv.Receiver).Cancel
	_ func(*recv.Receiver) bool                                 = (*recv.Receiver).Persist
	_ func(*recv.Receiver, api.Path) (api.Value, api.Errno)     = (*recv.Receiver).Read
	_ func(*recv.Receiver) api.Status                           = (*recv.Receiver).Status
	_ func(*recv.Receiver) []byte                               = (*recv.Receiver).Known
	_ func(*recv.Receiver) (api.Arena, bool)                    = (*recv.Receiver).Arena
	_ func(*recv.Receiver) int                                  = (*recv.Receiver).Bytes

	_ func() *net.Net                         = net.New
	_ func(*net.Net, int, []byte) bool        = (*net.Net).Push
	_ func(*net.Net) int                      = (*net.Net).Len
	_ func(*net.Net, int) (int, []byte, bool) = (*net.Net).At
	_ func(*net.Net, int) (int, []byte, bool) = (*net.Net).Take
	_ func(*net.Net, int) bool                = (*net.Net).Twice
	_ func(*net.Net, int, []byte) bool        = (*net.Net).Bend

	_ func(uint64, api.Arena, api.Config) (*sim.Sim, api.Errno) = sim.New
	_ func(*sim.Sim, api.Act) api.Told                          = (*sim.Sim).Do
	_ func(*sim.Sim) int                                        = (*sim.Sim).Clock
	_ func(*sim.Sim) api.Status                                 = (*sim.Sim).Out
	_ func(*sim.Sim) api.Status                                 = (*sim.Sim).In
	_ func(*sim.Sim) []byte                                     = (*sim.Sim).Known
	_ func(*sim.Sim) []byte                                     = (*sim.Sim).Kept
	_ func(*sim.Sim) (api.Arena, bool)                          = (*sim.Sim).Arena
	_ func(*sim.Sim) int                                        = (*sim.Sim).Bytes
	_ func(*sim.Sim) int                                        = (*sim.Sim).Len
	_ func(*sim.Sim, int) (int, []byte, bool)                   = (*sim.Sim).At

	_ func(api.Config, int) bool                   = bound.Premise
	_ func(api.Config, int, int) int               = bound.Ticks
	_ func(*sim.Sim, int, []bool, int) (int, bool) = bound.Run

	_ func(int, int) api.Node           = play.Sample
	_ func(string) (api.Act, api.Errno) = play.Parse
	_ func(api.Act) (string, bool)      = play.Print
	_ func(api.Told) string             = play.Show
	_ func(string) string               = play.Run
)

// source has what chapter 9 asks of a Source, and no more.
type source struct{}

func (source) Sizes() []int                         { return nil }
func (source) Word(seg, at int) (uint64, api.Errno) { return 0, api.OK }

var _ read.Source = source{}

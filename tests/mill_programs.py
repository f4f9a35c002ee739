"""Programs that run for long and use much of the mill, each with a memory, inputs, and what is said at its end."""

SORT = """
    num r1 0                ; a memory of eight words is sorted
outer:
    num r2 7
    sub r2 r2 r1
    zero r2 end
    num r3 0
inner:
    sub r4 r3 r2
    zero r4 next
    load r5 r3 0
    load r6 r3 1
    low r7 r6 r5
    zero r7 keep
    store r6 r3 0
    store r5 r3 1
keep:
    plus r3 r3 1
    jump inner
next:
    plus r1 r1 1
    jump outer
end:
    load r1 r0 0
    tell r1
    load r1 r0 7
    tell r1
    stop
"""

CALLS = """
    hall h                  ; calls are counted at address 0, their causes added up at address 4
    num r1 40
loop:
    plus r1 r1 -1
    zero r1 end
    mul r2 r1 r1
    store r2 r0 12
    jump loop
end:
    load r3 r0 0
    tell r3
    stop
h:
    load r7 r0 0
    plus r7 r7 1
    store r7 r0 0
    why r7
    load r6 r0 4
    add r6 r6 r7
    store r6 r0 4
    home
"""

LINKS = """
    num r1 6                ; the product of all numbers to six, by a routine that is linked to
    num r2 1
loop:
    zero r1 end
    link r7 times
    plus r1 r1 -1
    jump loop
times:
    mul r2 r2 r1
    go r7
end:
    tell r2
    stop
"""

FAULTS = """
    hall h                  ; each kind of fault once, its cause said, and on behind it
    div r1 r1 r0
    rest r1 r1 r0
    load r1 r0 -1
    store r1 r0 -1
    code 1
    home
    ask r1
    ask r1
    jump off
    num r1 9
    tell r1
    stop
h:
    why r6
    tell r6
    where r5
    plus r5 r5 1
    num r3 13
    low r3 r5 r3
    zero r3 far
    aim r5
    home
far:
    num r5 9
    aim r5
    home
off:
"""

SETS = """
    num r1 3                ; lines of one set push one another out, changed and not
again:
    num r2 0
loop:
    load r3 r2 0
    plus r3 r3 1
    store r3 r2 0
    load r4 r2 16
    add r4 r4 r3
    store r4 r2 32
    plus r2 r2 1
    num r5 16
    low r5 r2 r5
    zero r5 done
    jump loop
done:
    plus r1 r1 -1
    zero r1 end
    jump again
end:
    load r3 r0 15
    tell r3
    load r3 r0 47
    tell r3
    stop
"""

ALL = (
    (SORT, [9, 3, 65535, 0, 7, 7, 2, 1], None, (0, 65535)),
    (CALLS, [0] * 16, None, None),
    (LINKS, [0] * 4, None, (720,)),
    (FAULTS, [1, 2, 3, 4], [5], (3, 3, 4, 4, 2, 2, 5, 1, 9)),
    (SETS, list(range(64)), None, (18, 49)),
)
